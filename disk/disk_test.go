package disk

import (
	"bytes"
	"fmt"
	"math"
	"math/rand"
	"slices"
	"testing"

	"palisade/api"
)

// most is how many bytes an area takes.
const most = 40040

// state is all that a disk tells of what there is.
type state struct {
	areas [2]string
	armed bool
}

func stateOf(d *Disk) state {
	return state{areas: [2]string{string(d.Read(0)), string(d.Read(1))}, armed: d.Armed()}
}

// short tells bytes that may be many.
func short(s string) string {
	if len(s) > 40 {
		return fmt.Sprintf("%q .. (%d bytes)", s[:40], len(s))
	}
	return fmt.Sprintf("%q", s)
}

// want holds what d tells against s; it doesn't go on behind a fault.
func want(t *testing.T, d *Disk, s state, what string) {
	t.Helper()
	got := stateOf(d)
	if got != s {
		t.Fatalf("%s: %s, %s, armed %v; not %s, %s, %v", what,
			short(got.areas[0]), short(got.areas[1]), got.armed, short(s.areas[0]), short(s.areas[1]), s.armed)
	}
}

// write writes, and holds the answer against e.
func write(t *testing.T, d *Disk, area int, b []byte, e api.Errno) {
	t.Helper()
	if got := d.Write(area, b); got != e {
		t.Fatalf("Write(%d, %s): %v, not %v", area, short(string(b)), got, e)
	}
}

// some are so many bytes, of all values, unlike from one seed to another.
func some(count, seed int) []byte {
	b := make([]byte, count)
	for i := range b {
		b[i] = byte(i*7 + i>>8 + seed*31)
	}
	return b
}

// nowhere are numbers that are no area's.
func nowhere() []int {
	return []int{
		-1, -2, -3, -255, -256, -257, math.MinInt32, math.MinInt64, math.MinInt64 + 1,
		2, 3, 4, 5, 255, 256, 257, 1 << 16, math.MaxInt32, 1 << 32, 1<<32 + 1, math.MaxInt64,
	}
}

// tooLong are counts of bytes that no area takes.
func tooLong() []int { return []int{most + 1, most + 2, 40296, 65536, 65537, 80080, 80081} }

// lengths are counts of bytes that an area takes.
func lengths() []int {
	return []int{0, 1, 2, 3, 5, 64, 255, 256, 257, 8000, 39999, 40000, 40001, 40039, most}
}

// arms are numbers to arm with ahead of a write of so many bytes.
func arms(count int) []int {
	return []int{
		math.MinInt64, math.MinInt32, -most, -2, -1, 0, 1, 2, count / 2, count - 2, count - 1,
		count, count + 1, count + 2, most, most + 1, 1 << 16, math.MaxInt32, 1 << 32, math.MaxInt64,
	}
}

// torn is what is left of b, if it was armed with so many.
func torn(b []byte, armed int) string {
	switch {
	case armed <= 0:
		return ""
	case armed >= len(b):
		return string(b)
	}
	return string(b[:armed])
}

// filled is a disk with both areas written.
func filled(t *testing.T) (*Disk, state) {
	t.Helper()
	d := New()
	write(t, d, 0, []byte("first area"), api.OK)
	write(t, d, 1, []byte("the second"), api.OK)
	s := state{areas: [2]string{"first area", "the second"}}
	want(t, d, s, "filled")
	return d, s
}

// P7.1: the chapter's limits and errors are those of package api.
func TestLimits(t *testing.T) {
	if api.MaxImage != 40000 || api.ErrPower != 70 || api.ErrNone != 61 || api.ErrLong != 21 {
		t.Error("other limits than these tests are written for")
	}
}

// P7.1: a new disk has two areas, empty, and isn't armed.
func TestNew(t *testing.T) {
	d := New()
	want(t, d, state{}, "new")
	for _, area := range []int{0, 1} {
		n := New()
		write(t, n, area, []byte("x"), api.OK)
		if string(n.Read(area)) != "x" {
			t.Errorf("area %d: %q", area, n.Read(area))
		}
	}
	want(t, d, state{}, "the other one")
}

// P7.1: the chapter's example.
func TestExample(t *testing.T) {
	d := New()
	d.Arm(1)
	if e := d.Write(0, []byte("ab")); e != api.ErrPower || string(d.Read(0)) != "a" {
		t.Errorf("%v, %q", e, d.Read(0))
	}
}

// P7.1: an area is what was written, whatever stood there, of each length, up
// to the greatest.
func TestWrite(t *testing.T) {
	for _, area := range []int{0, 1} {
		d, s := filled(t)
		seed := 0
		for _, before := range lengths() {
			for _, count := range lengths() {
				for _, n := range []int{before, count} {
					seed++
					b := some(n, seed)
					write(t, d, area, b, api.OK)
					s.areas[area] = string(b)
				}
				want(t, d, s, fmt.Sprintf("%d behind %d, area %d", count, before, area))
			}
		}
	}
}

// P7.1: no bytes, as a nil list and as an empty one, are an empty area.
func TestWriteNone(t *testing.T) {
	for _, area := range []int{0, 1} {
		for _, none := range [][]byte{nil, {}, []byte("spare")[:0]} {
			d, s := filled(t)
			write(t, d, area, none, api.OK)
			s.areas[area] = ""
			want(t, d, s, "none")
			n := New()
			write(t, n, area, none, api.OK)
			want(t, n, state{}, "none on a new one")
		}
	}
}

// P7.1: a shorter one over a longer one leaves nothing of that.
func TestShorterOverLonger(t *testing.T) {
	for _, area := range []int{0, 1} {
		d, s := filled(t)
		for _, b := range []string{"abcdefgh", "xyz", "x", "abcdefgh", "", "abc", "ab"} {
			write(t, d, area, []byte(b), api.OK)
			s.areas[area] = b
			want(t, d, s, "over it")
		}
		d.Arm(2)
		write(t, d, area, []byte("longer than that"), api.ErrPower)
		s.areas[area] = "lo"
		want(t, d, s, "torn over it")
		write(t, d, area, []byte("abcdefgh"), api.OK)
		d.Arm(3)
		write(t, d, area, []byte("12345"), api.ErrPower)
		s.areas[area] = "123"
		want(t, d, s, "torn over a longer one")
	}
}

// P7.1: the greatest count of bytes, one less and one more.
func TestWriteLong(t *testing.T) {
	for _, area := range []int{0, 1} {
		d, s := filled(t)
		for _, count := range tooLong() {
			write(t, d, area, some(count, 1), api.ErrLong)
			want(t, d, s, "too many")
		}
		for _, count := range []int{most - 1, most} {
			b := some(count, count)
			write(t, d, area, b, api.OK)
			s.areas[area] = string(b)
			want(t, d, s, "just as many")
			write(t, d, area, some(most+1, 2), api.ErrLong)
			want(t, d, s, "one more")
		}
	}
	for _, count := range tooLong() {
		d := New()
		write(t, d, 0, some(count, 1), api.ErrLong)
		write(t, d, 1, some(count, 1), api.ErrLong)
		want(t, d, state{}, "too many on a new one")
	}
}

// P7.1: an area that there isn't; that stands ahead of too many bytes.
func TestWriteNowhere(t *testing.T) {
	d, s := filled(t)
	for _, area := range nowhere() {
		for _, count := range append(lengths(), tooLong()...) {
			write(t, d, area, some(count, 3), api.ErrNone)
		}
		write(t, d, area, nil, api.ErrNone)
		want(t, d, s, "nowhere")
	}
}

// P7.1: there is nothing to read in an area that there isn't, whatever the
// others have; reading changes nothing.
func TestReadNowhere(t *testing.T) {
	full := New()
	write(t, full, 0, some(most, 1), api.OK)
	write(t, full, 1, some(most, 2), api.OK)
	armed, _ := filled(t)
	armed.Arm(3)
	for _, d := range []*Disk{New(), full, armed} {
		s := stateOf(d)
		for _, area := range nowhere() {
			if b := d.Read(area); len(b) != 0 {
				t.Errorf("Read(%d): %s", area, short(string(b)))
			}
			want(t, d, s, "read")
		}
	}
}

// P7.1: the write that fails leaves the first bytes, as many as it was armed
// with, at most all; then it isn't armed any more, and the next one goes well.
func TestTorn(t *testing.T) {
	for _, area := range []int{0, 1} {
		for _, count := range lengths() {
			for _, n := range arms(count) {
				d, s := filled(t)
				b, what := some(count, 5), fmt.Sprintf("%d bytes, armed with %d", count, n)
				d.Arm(n)
				s.armed = true
				want(t, d, s, what)
				write(t, d, area, b, api.ErrPower)
				s.areas[area], s.armed = torn(b, n), false
				want(t, d, s, what)
				write(t, d, area, []byte("the next"), api.OK)
				s.areas[area] = "the next"
				want(t, d, s, what+", the next one")
			}
		}
	}
}

// P7.1: each count up to all the bytes and beyond.
func TestTornAnywhere(t *testing.T) {
	b := []byte("hello, disk")
	for n := -3; n < len(b)+4; n++ {
		d := New()
		d.Arm(n)
		write(t, d, 1, b, api.ErrPower)
		want(t, d, state{areas: [2]string{"", torn(b, n)}}, fmt.Sprintf("armed with %d", n))
	}
}

// P7.1: behind a failure the next ones go well, in the same area and in the
// other one, of whatever length; armed again, it fails again.
func TestBehindTorn(t *testing.T) {
	for _, next := range []int{0, 1} {
		d, s := filled(t)
		for i := range 5 {
			d.Arm(i)
			write(t, d, 0, []byte("abcdef"), api.ErrPower)
			s.areas[0] = "abcdef"[:i]
			want(t, d, s, "torn")
			for _, count := range []int{i, 100, most} {
				b := some(count, i)
				write(t, d, next, b, api.OK)
				s.areas[next] = string(b)
				want(t, d, s, "the next one")
			}
		}
	}
}

// P7.1: of several that it was armed with ahead of one write the last counts,
// be it more or less; one write fails, not several.
func TestArmAgain(t *testing.T) {
	counts := []int{math.MinInt64, -1, 0, 1, 3, 4, 5, 6, 99, math.MaxInt64}
	b := []byte("abcde")
	for _, area := range []int{0, 1} {
		for _, first := range counts {
			for _, last := range counts {
				d, s := filled(t)
				d.Arm(first)
				d.Arm(last)
				s.armed = true
				want(t, d, s, "armed twice")
				write(t, d, area, b, api.ErrPower)
				s.areas[area], s.armed = torn(b, last), false
				want(t, d, s, fmt.Sprintf("armed with %d, then %d", first, last))
				write(t, d, area, b, api.OK)
				s.areas[area] = string(b)
				want(t, d, s, "the next one")
			}
		}
	}
}

// P7.1: what is refused leaves it armed, with as many bytes, and both areas as
// they were, however often it is refused.
func TestRefusedWhileArmed(t *testing.T) {
	b := []byte("abcde")
	for _, area := range []int{0, 1} {
		for _, n := range []int{-1, 0, 1, 4, 5, 6, most, most + 1, math.MaxInt64} {
			d, s := filled(t)
			d.Arm(n)
			s.armed = true
			for _, none := range nowhere() {
				write(t, d, none, b, api.ErrNone)
				write(t, d, none, nil, api.ErrNone)
				write(t, d, none, some(most, 1), api.ErrNone)
				write(t, d, none, some(most+1, 1), api.ErrNone)
				want(t, d, s, "nowhere")
			}
			for _, count := range tooLong() {
				write(t, d, 0, some(count, 1), api.ErrLong)
				write(t, d, 1, some(count, 1), api.ErrLong)
				want(t, d, s, "too many")
			}
			write(t, d, area, b, api.ErrPower)
			s.areas[area], s.armed = torn(b, n), false
			want(t, d, s, "torn at last")
		}
	}
}

// P7.1: it is armed from Arm to the write that fails, not by anything else.
func TestArmed(t *testing.T) {
	d := New()
	told := func(armed bool, what string) {
		t.Helper()
		for range 2 {
			if d.Armed() != armed {
				t.Fatalf("%s: Armed is %v", what, !armed)
			}
		}
	}
	told(false, "new")
	write(t, d, 0, []byte("a"), api.OK)
	told(false, "written")
	write(t, d, 2, []byte("a"), api.ErrNone)
	write(t, d, 0, some(most+1, 1), api.ErrLong)
	told(false, "refused")
	for _, n := range arms(1) {
		d.Arm(n)
		told(true, "armed")
		d.Read(0)
		d.Read(1)
		d.Read(2)
		told(true, "read")
		write(t, d, -1, []byte("a"), api.ErrNone)
		told(true, "nowhere")
		write(t, d, 1, some(most+1, 1), api.ErrLong)
		told(true, "too many")
		write(t, d, 1, nil, api.ErrPower)
		told(false, "torn")
		write(t, d, 1, []byte("a"), api.OK)
		told(false, "the next one")
	}
}

// P7.1: what one disk is told no other one knows.
func TestEachForItself(t *testing.T) {
	a, b := New(), New()
	a.Arm(1)
	want(t, b, state{}, "the other one")
	write(t, b, 0, []byte("ab"), api.OK)
	write(t, a, 0, []byte("xy"), api.ErrPower)
	want(t, b, state{areas: [2]string{"ab", ""}}, "the other one")
	want(t, a, state{areas: [2]string{"x", ""}}, "the one")
	b.Arm(0)
	write(t, a, 1, []byte("z"), api.OK)
	want(t, a, state{areas: [2]string{"x", "z"}}, "the one")
	want(t, b, state{areas: [2]string{"ab", ""}, armed: true}, "the other one")
}

// spoil changes bytes, and those in the spare room behind them.
func spoil(b []byte) {
	b = b[:cap(b)]
	for i := range b {
		b[i] ^= 0xa5
	}
}

// roomy is b at the front of a longer list that is filled.
func roomy(b []byte) []byte {
	return slices.Concat(b, []byte("what stands behind it"))[:len(b)]
}

// ways are what a Write may come to: its area, its bytes, what it is armed
// with ahead of it (not at all: -1), its answer.
func ways() []struct {
	area, count, arm int
	e                api.Errno
} {
	return []struct {
		area, count, arm int
		e                api.Errno
	}{
		{0, 0, -1, api.OK}, {0, 1, -1, api.OK}, {0, 12, -1, api.OK}, {0, most, -1, api.OK},
		{1, 0, -1, api.OK}, {1, 1, -1, api.OK}, {1, 12, -1, api.OK}, {1, most, -1, api.OK},
		{0, 12, 0, api.ErrPower}, {0, 12, 5, api.ErrPower}, {0, 12, 12, api.ErrPower}, {0, 12, 99, api.ErrPower},
		{1, 12, 0, api.ErrPower}, {1, 12, 5, api.ErrPower}, {1, 12, 12, api.ErrPower}, {1, 12, 99, api.ErrPower},
		{0, most, 40000, api.ErrPower}, {1, most, most, api.ErrPower}, {0, 0, 3, api.ErrPower}, {1, 0, 0, api.ErrPower},
		{0, most + 1, -1, api.ErrLong}, {1, most + 1, -1, api.ErrLong}, {0, most + 1, 7, api.ErrLong}, {1, most + 1, 7, api.ErrLong},
		{-1, 12, -1, api.ErrNone}, {2, 12, -1, api.ErrNone}, {-1, 12, 7, api.ErrNone}, {2, 12, 7, api.ErrNone},
		{-1, most + 1, -1, api.ErrNone}, {2, most + 1, 7, api.ErrNone},
	}
}

// P7.1: what was written is a copy: what the caller does with the bytes behind
// Write, and with those behind them, changes nothing on the disk.
func TestWrittenIsCopied(t *testing.T) {
	for i, w := range ways() {
		d, _ := filled(t)
		if w.arm >= 0 {
			d.Arm(w.arm)
		}
		b := roomy(some(w.count, i))
		write(t, d, w.area, b, w.e)
		s := stateOf(d)
		spoil(b)
		want(t, d, s, fmt.Sprintf("row %d: the bytes were changed", i))
		copy(b[:cap(b)], "something else altogether")
		want(t, d, s, fmt.Sprintf("row %d: the bytes were changed again", i))
	}
}

// P7.1: what is handed in is left as it was, its spare room too, by Write and
// by all that comes behind it.
func TestHandedInIsLeft(t *testing.T) {
	for i, w := range ways() {
		d, _ := filled(t)
		if w.arm >= 0 {
			d.Arm(w.arm)
		}
		b := roomy(some(w.count, i))
		was := string(b[:cap(b)])
		write(t, d, w.area, b, w.e)
		for _, area := range []int{-1, 0, 1, 2} {
			spoil(d.Read(area))
			d.Write(area, []byte("other bytes"))
			d.Arm(4)
			d.Write(area, []byte("some more bytes"))
			spoil(d.Read(area))
		}
		if string(b[:cap(b)]) != was {
			t.Fatalf("row %d: what was handed in was changed", i)
		}
	}
}

// P7.1: the same bytes handed in for both areas are bytes of each.
func TestSameBytesTwice(t *testing.T) {
	d := New()
	b := []byte("abcdef")
	write(t, d, 0, b, api.OK)
	write(t, d, 1, b[2:], api.OK)
	write(t, d, 0, []byte("xyz"), api.OK)
	want(t, d, state{areas: [2]string{"xyz", "cdef"}}, "the one area")
	write(t, d, 0, d.Read(1), api.OK)
	write(t, d, 1, []byte("CDEFGH"), api.OK)
	want(t, d, state{areas: [2]string{"cdef", "CDEFGH"}}, "what was read, written")
}

// P7.1: what was read is a copy: changing it, and what is behind it, changes
// nothing on the disk and in no other answer.
func TestReadIsCopied(t *testing.T) {
	for _, count := range lengths() {
		for _, arm := range []int{-1, 0, 1, count / 2, count, count + 1} {
			d := New()
			for _, area := range []int{0, 1} {
				if arm >= 0 {
					d.Arm(arm)
				}
				d.Write(area, some(count, area))
			}
			s, what := stateOf(d), fmt.Sprintf("%d bytes, armed with %d", count, arm)
			var read [][]byte
			for range 3 {
				read = append(read, d.Read(0), d.Read(1))
			}
			for i, b := range read {
				spoil(b)
				want(t, d, s, what)
				for j, other := range read[i+1:] {
					if string(other) != s.areas[(i+1+j)%2] {
						t.Fatalf("%s: answer %d was changed with answer %d", what, i+1+j, i)
					}
				}
			}
			_ = append(d.Read(0), "behind it"...)
			want(t, d, s, what)
		}
	}
}

// P7.1: an answer is left as it was by whatever is written behind it.
func TestReadStays(t *testing.T) {
	for i, w := range ways() {
		for _, count := range []int{0, 1, 12, 100, most} {
			d := New()
			write(t, d, 0, some(count, 1), api.OK)
			write(t, d, 1, some(count, 2), api.OK)
			a, b := d.Read(0), d.Read(1)
			if w.arm >= 0 {
				d.Arm(w.arm)
			}
			write(t, d, w.area, some(w.count, i+3), w.e)
			if !bytes.Equal(a, some(count, 1)) || !bytes.Equal(b, some(count, 2)) {
				t.Fatalf("row %d: what was read before was changed", i)
			}
		}
	}
}

// P7.2: behind each write, also those that are refused or torn, the other area
// is as it was, of whatever length it is.
func TestOtherAreaStays(t *testing.T) {
	for i, w := range ways() {
		for _, zero := range lengths() {
			for _, one := range []int{0, 1, 12, most} {
				d := New()
				write(t, d, 0, some(zero, 1), api.OK)
				write(t, d, 1, some(one, 2), api.OK)
				s := stateOf(d)
				if w.arm >= 0 {
					d.Arm(w.arm)
				}
				write(t, d, w.area, some(w.count, i+3), w.e)
				got := stateOf(d)
				for area := range got.areas {
					stays := area != w.area || w.e == api.ErrLong
					if stays && got.areas[area] != s.areas[area] {
						t.Fatalf("row %d: area %d: %s, not %s", i, area, short(got.areas[area]), short(s.areas[area]))
					}
				}
			}
		}
	}
}

// P7.2: of two areas that are written by turns each keeps what it was given
// last, also where every other write is torn.
func TestByTurns(t *testing.T) {
	d, s := New(), state{}
	for i := range 200 {
		area, b := i%2, some(i*37%500, i)
		if i%3 == 0 {
			d.Arm(i)
			write(t, d, area, b, api.ErrPower)
			s.areas[area] = torn(b, i)
		} else {
			write(t, d, area, b, api.OK)
			s.areas[area] = string(b)
		}
		want(t, d, s, fmt.Sprintf("turn %d", i))
	}
}

// call is one that a disk was told: an Arm, or a Write that wasn't refused.
type call struct {
	arms  bool
	bytes int
	area  int
	text  string
}

// book says P7.1 once more, by what the disk was told, from the last call back.
type book []call

func (b book) armed() (int, bool) {
	if len(b) == 0 || !b[len(b)-1].arms {
		return 0, false
	}
	return b[len(b)-1].bytes, true
}

func (b book) area(area int) string {
	for i, c := range slices.Backward(b) {
		if c.arms || c.area != area {
			continue
		}
		if n, ok := b[:i].armed(); ok {
			return torn([]byte(c.text), n)
		}
		return c.text
	}
	return ""
}

func (b book) state() state {
	_, armed := b.armed()
	return state{areas: [2]string{b.area(0), b.area(1)}, armed: armed}
}

// write tells what Write must, and puts it down.
func (b *book) write(area int, text []byte) api.Errno {
	if area != 0 && area != 1 {
		return api.ErrNone
	}
	if len(text) > 40040 {
		return api.ErrLong
	}
	_, armed := b.armed()
	*b = append(*b, call{area: area, text: string(text)})
	if armed {
		return api.ErrPower
	}
	return api.OK
}

// drawnCount is mostly small, or about the limit.
func drawnCount(r *rand.Rand) int {
	if r.Intn(12) == 0 {
		return most - 3 + r.Intn(7)
	}
	return r.Intn(30)
}

// P7.1, P7.2: whatever is called, it is as by the book.
func TestAsByTheBook(t *testing.T) {
	r := rand.New(rand.NewSource(7))
	for range 40 {
		d, b := New(), book{}
		for range 150 {
			switch r.Intn(5) {
			case 0:
				n := drawnCount(r) - 3
				d.Arm(n)
				b = append(b, call{arms: true, bytes: n})
			default:
				area, text := r.Intn(4)-1, some(drawnCount(r), r.Intn(256))
				e := b.write(area, text)
				write(t, d, area, text, e)
				spoil(text)
			}
			spoil(d.Read(r.Intn(4) - 1))
			want(t, d, b.state(), "by the book")
		}
	}
}
