package image

import (
	"bytes"
	"encoding/binary"
	"encoding/hex"
	"fmt"
	"hash/fnv"
	"math"
	"math/rand"
	"slices"
	"testing"

	"palisade/api"
	"palisade/disk"
)

const (
	// longest is how many bytes an image has at most.
	longest = 40000
	// most is how many bytes an area takes, around how many a frame has beside
	// its image's.
	most, around = 40040, 16
	last         = math.MaxUint32
)

// sealed is b with the sum of it behind.
func sealed(b []byte) []byte {
	h := fnv.New64a()
	h.Write(b)
	return binary.BigEndian.AppendUint64(slices.Clone(b), h.Sum64())
}

// told is a frame that tells the length that is given, with the sum of that.
func told(turn, length uint32, b []byte) []byte {
	out := binary.BigEndian.AppendUint32(nil, turn)
	return sealed(append(binary.BigEndian.AppendUint32(out, length), b...))
}

// framed says P8.1 once more.
func framed(turn uint32, b []byte) []byte { return told(turn, uint32(len(b)), b) }

func text(turn uint32, s string) []byte { return framed(turn, []byte(s)) }

// some are so many bytes, of all values, unlike from one seed to another.
func some(count, seed int) []byte {
	b := make([]byte, count)
	for i := range b {
		b[i] = byte(i*7 + i>>8 + seed*31)
	}
	return b
}

func turns() []uint32 {
	return []uint32{
		0, 1, 2, 127, 128, 255, 256, 257, 65535, 65536, 1<<24 - 1, 1 << 24, 0x01020304, 0x80000000,
		math.MaxInt32, last - 1, last,
	}
}

// lengths are counts of bytes, some of which aren't an image's.
func lengths() []int {
	return []int{
		0, 1, 2, 3, 4, 7, 8, 9, 15, 16, 17, 64, 255, 256, 257, 8000, 39999, longest, longest + 1,
		most - around, most, most + 1, 65519, 65520, 65535, 65536, 65537, 70000, 200000,
	}
}

// short tells bytes that may be many.
func short(b []byte) string {
	if len(b) > 40 {
		return fmt.Sprintf("%x .. (%d bytes)", b[:40], len(b))
	}
	return fmt.Sprintf("%x", b)
}

// isFrame holds what Parse tells of area against turn and b.
func isFrame(t *testing.T, area []byte, turn uint32, b []byte, what string) {
	t.Helper()
	n, got, ok := Parse(area)
	if !ok || n != turn || !bytes.Equal(got, b) {
		t.Fatalf("%s: Parse: %d, %s, %v; not %d, %s, true", what, n, short(got), ok, turn, short(b))
	}
}

// noFrame wants area refused, without anything beside the false.
func noFrame(t *testing.T, area []byte, what string) {
	t.Helper()
	if n, b, ok := Parse(area); ok || n != 0 || len(b) != 0 {
		t.Fatalf("%s: Parse: %d, %s, %v", what, n, short(b), ok)
	}
}

// places are some of the places in so many bytes: all of few; of many those
// about both ends, and some between them.
func places(count int) []int {
	var p []int
	for i := range count {
		if count < 400 || i < 24 || i >= count-24 || i%1999 == 0 {
			p = append(p, i)
		}
	}
	return p
}

// P8.1, P8.2: the chapter's limits and errors are those of package api.
func TestLimits(t *testing.T) {
	if api.MaxImage != 40000 || api.ErrImage != 80 || api.ErrLong != 21 || api.ErrPower != 70 {
		t.Error("other limits than these tests are written for")
	}
}

// P8.1: frames whose bytes were worked out elsewhere.
func TestFrameByHand(t *testing.T) {
	for _, f := range []struct {
		turn   uint32
		b, hex string
	}{
		{0, "", "0000000000000000a8c7f832281a39c5"},
		{1, "a", "0000000100000001610971e30736a1e81c"},
		{1, "\x00", "0000000100000001000971840736a146af"},
		{7, "hello", "000000070000000568656c6c6fd6d6be180210f0f5"},
		{0x01020304, "palisade", "010203040000000870616c697361646515a986d2a5f66982"},
		{last, "", "ffffffff000000004ebaad864bc6f2e1"},
		{last, "\x00\xff", "ffffffff0000000200ff8ae72441682e199a"},
	} {
		got := Frame(f.turn, []byte(f.b))
		if hex.EncodeToString(got) != f.hex {
			t.Errorf("Frame(%d, %q): %x", f.turn, f.b, got)
		}
		isFrame(t, got, f.turn, []byte(f.b), f.hex)
	}
}

// P8.1: turn, length, the bytes, the sum of all that, of each turn and length;
// and all that back.
func TestFrame(t *testing.T) {
	for i, turn := range turns() {
		for _, count := range lengths() {
			b, what := some(count, i), fmt.Sprintf("turn %d, %d bytes", turn, count)
			f := Frame(turn, b)
			if !bytes.Equal(f, framed(turn, b)) {
				t.Fatalf("%s: %s", what, short(f))
			}
			isFrame(t, f, turn, b, what)
		}
	}
}

// P8.1: no bytes are framed the same, as a nil list and as an empty one.
func TestFrameNone(t *testing.T) {
	for _, turn := range turns() {
		for _, none := range [][]byte{nil, {}, []byte("spare")[:0]} {
			f := Frame(turn, none)
			if !bytes.Equal(f, framed(turn, nil)) {
				t.Errorf("turn %d: %x", turn, f)
			}
			isFrame(t, f, turn, nil, "none")
		}
	}
}

// P8.1: a length of all its four bytes, of which an image needs two.
func TestFrameVeryLong(t *testing.T) {
	for _, count := range []int{1<<24 - 1, 1 << 24, 1<<24 + 0x030201} {
		b := some(count, 5)
		f := Frame(6, b)
		if !bytes.Equal(f, framed(6, b)) {
			t.Fatalf("%d bytes: %s", count, short(f))
		}
		isFrame(t, f, 6, b, "very long")
		noFrame(t, f[:len(f)-1], "very long, cut off")
	}
}

// P8.1: bytes that are frames themselves are bytes as any others.
func TestFrameInFrame(t *testing.T) {
	b := []byte("x")
	for i := range 20 {
		turn := uint32(20 - i)
		f := Frame(turn, b)
		isFrame(t, f, turn, b, "a frame in it")
		b = f
	}
}

// P8.1: fewer bytes than a frame of no bytes has are none, whatever they are.
func TestParseFew(t *testing.T) {
	noFrame(t, nil, "nil")
	noFrame(t, []byte{}, "none")
	noFrame(t, sealed(nil), "a sum alone")
	whole := framed(1, nil)
	for count := range around {
		noFrame(t, make([]byte, count), "noughts")
		noFrame(t, bytes.Repeat([]byte{255}, count), "all bits")
		noFrame(t, whole[:count], "the first bytes")
		noFrame(t, whole[around-count:], "the last bytes")
		noFrame(t, append(slices.Clone(whole[:count/2]), whole[around-count+count/2:]...), "a hole")
		if count >= 8 {
			noFrame(t, sealed(make([]byte, count-8)), "a sum behind too few")
		}
	}
	for count := range 100 {
		noFrame(t, make([]byte, count), "noughts")
		noFrame(t, bytes.Repeat([]byte{255}, count), "all bits")
		noFrame(t, some(count, 3), "rubbish")
	}
}

// P8.1: what is cut off anywhere, at the end or at the front, is no frame.
func TestParseCut(t *testing.T) {
	for _, count := range []int{0, 1, 2, 8, 9, 16, 17, 100, longest} {
		for _, turn := range []uint32{0, 1, last} {
			f := framed(turn, some(count, 1))
			for _, n := range places(len(f)) {
				noFrame(t, f[:n], "cut off at the end")
				noFrame(t, slices.Clone(f[:n]), "cut off at the end, copied")
				noFrame(t, f[n+1:], "cut off at the front")
			}
		}
	}
}

// P8.1: bytes that are nought all through, cut off, are none either.
func TestParseCutNoughts(t *testing.T) {
	for _, count := range []int{1, 8, 40} {
		f := framed(0, make([]byte, count))
		for n := range f {
			noFrame(t, f[:n], "cut off")
		}
	}
}

// P8.1: a frame with bytes behind it, or ahead of it, is none.
func TestParseBehind(t *testing.T) {
	for _, count := range []int{0, 1, 8, 17, 100, longest} {
		f := framed(5, some(count, 1))
		for c := range 256 {
			if count == longest && c%85 != 0 {
				continue
			}
			noFrame(t, append(slices.Clone(f), byte(c)), "a byte behind")
			noFrame(t, append([]byte{byte(c)}, f...), "a byte ahead")
		}
		for _, more := range [][]byte{f, f[:8], f[len(f)-8:], make([]byte, 8), make([]byte, 16), framed(6, nil)} {
			noFrame(t, slices.Concat(f, more), "more behind")
			noFrame(t, slices.Concat(more, f), "more ahead")
		}
		noFrame(t, sealed(f), "a sum twice")
	}
	noFrame(t, make([]byte, most), "an area of noughts")
}

// P8.1: a length that isn't that of the bytes is none's, though the sum is that
// of all that.
func TestParseLength(t *testing.T) {
	for _, count := range []int{0, 1, 2, 7, 8, 9, 15, 16, 17, 100, 255, 256, longest} {
		b, right := some(count, 2), uint32(count)
		isFrame(t, told(3, right, b), 3, b, "the right length")
		for _, length := range []uint32{
			right - 1, right + 1, right - 2, right + 2, right - 8, right + 8, right - 16, right + 16, right + 24,
			right + 1<<8, right + 1<<16, right + 1<<24, right + 1<<31, -right - 1, ^right - 16,
			right<<8 + 1, right<<16 + 1, right<<24 + 1, last, last - 1, last - 7, last - 8, last - 15, last - 16,
			1 << 31, 1<<31 - 1, 1<<31 - 16, 1<<31 - 17,
		} {
			if length == right {
				t.Fatal("a right length among the wrong ones")
			}
			noFrame(t, told(3, length, b), fmt.Sprintf("%d bytes, told as %d", count, length))
		}
	}
	for i := range 32 {
		for _, count := range []int{0, 1, 24, 300} {
			b := some(count, i)
			noFrame(t, told(9, uint32(count)^1<<i, b), "a bit of the length")
		}
	}
}

// P8.1: one byte that is another one, at each place, makes it none.
func TestParseTurned(t *testing.T) {
	for _, count := range []int{0, 1, 2, 8, 17} {
		for _, turn := range []uint32{0, 1, 0x01020304, last} {
			f := framed(turn, some(count, 4))
			for i := range f {
				for c := 1; c < 256; c++ {
					x := slices.Clone(f)
					x[i] ^= byte(c)
					noFrame(t, x, fmt.Sprintf("byte %d of %d", i, len(f)))
				}
			}
			isFrame(t, f, turn, some(count, 4), "unturned")
		}
	}
	f := framed(12, some(longest, 4))
	for _, i := range places(len(f)) {
		for _, c := range []byte{1, 16, 128, 255} {
			f[i] ^= c
			noFrame(t, f, fmt.Sprintf("byte %d of many", i))
			f[i] ^= c
		}
	}
	isFrame(t, f, 12, some(longest, 4), "turned back")
}

// P8.1: a sum of less, of more, or written otherwise, is none's.
func TestParseOtherSum(t *testing.T) {
	for _, count := range []int{1, 8, 33} {
		b := some(count, 6)
		f := framed(7, b)
		front, sum := f[:8+count], f[8+count:]
		back := slices.Clone(sum)
		slices.Reverse(back)
		little := binary.LittleEndian.AppendUint32(binary.LittleEndian.AppendUint32(nil, 7), uint32(count))
		behind := func(sealed []byte) []byte { return sealed[len(sealed)-8:] }
		for i, other := range [][]byte{
			back, make([]byte, 8), behind(sealed(f)), behind(sealed(front[4:])), behind(sealed(front[:4])),
			behind(sealed(append(slices.Clone(b), front[:8]...))), behind(sealed(append(slices.Clone(little), b...))),
			behind(framed(8, b)), behind(framed(7, append([]byte{1}, b...))), behind(told(7, uint32(count)+1, b)),
		} {
			noFrame(t, slices.Concat(front, other), fmt.Sprintf("sum %d", i))
		}
		noFrame(t, sealed(slices.Concat(little, b)), "the lowest byte first")
		noFrame(t, slices.Concat(sum, front), "the sum ahead")
		noFrame(t, sealed(slices.Concat(front[:4], front[6:])), "a length of two bytes")
		noFrame(t, sealed(slices.Concat(make([]byte, 4), front)), "a turn of eight bytes")
	}
}

// spoil changes bytes, and those in the spare room behind them.
func spoil(b []byte) {
	b = b[:cap(b)]
	for i := range b {
		b[i] ^= 0xa5
	}
}

// roomy is b at the front of a longer list that is filled.
func roomy(b []byte) []byte {
	return slices.Concat(b, []byte("what stands behind it, longer than all that a frame has beside its bytes"))[:len(b)]
}

// P8.1: what Frame and Parse tell are copies: what is done with the bytes that
// were handed in, or with one answer, changes no other answer.
func TestFrameAndParseAreCopies(t *testing.T) {
	for _, count := range []int{0, 1, 8, 33, longest} {
		b := roomy(some(count, 8))
		f, g := Frame(3, b), Frame(3, b)
		spoil(b)
		if !bytes.Equal(f, framed(3, some(count, 8))) {
			t.Fatalf("%d bytes: the frame was changed with the bytes", count)
		}
		spoil(f)
		if !bytes.Equal(g, framed(3, some(count, 8))) {
			t.Fatalf("%d bytes: the frame was changed with another one", count)
		}
		area := roomy(g)
		_, x, _ := Parse(area)
		_, y, _ := Parse(area)
		spoil(area)
		if !bytes.Equal(x, some(count, 8)) {
			t.Fatalf("%d bytes: what was told was changed with the area", count)
		}
		spoil(x)
		if !bytes.Equal(y, some(count, 8)) {
			t.Fatalf("%d bytes: what was told was changed with what was told", count)
		}
	}
}

// P8.1: what is handed in is left as it was, its spare room too, also by what
// is done with the answers.
func TestHandedInIsLeft(t *testing.T) {
	for _, count := range []int{0, 1, 8, 33, longest, longest + 1} {
		for i, whole := range [][]byte{some(count, 9), framed(3, some(count, 9)), framed(3, some(count, 9))[1:]} {
			b := roomy(whole)
			was := string(b[:cap(b)])
			spoil(Frame(3, b))
			_, x, _ := Parse(b)
			spoil(x)
			d := disk.New()
			for range 3 {
				Save(d, b)
				d.Arm(4)
				Save(d, b)
				x, _ = Load(d)
				spoil(x)
			}
			if string(b[:cap(b)]) != was {
				t.Fatalf("%d bytes, %d: what was handed in was changed", count, i)
			}
		}
	}
}

// state is all that a disk tells of what there is.
type state struct {
	areas [2]string
	armed bool
}

func stateOf(d *disk.Disk) state {
	return state{areas: [2]string{string(d.Read(0)), string(d.Read(1))}, armed: d.Armed()}
}

// laid is a disk with both areas written.
func laid(t *testing.T, zero, one []byte) *disk.Disk {
	t.Helper()
	d := disk.New()
	for area, b := range [][]byte{zero, one} {
		if e := d.Write(area, b); e != api.OK {
			t.Fatal(e)
		}
	}
	return d
}

// has holds what Load and Turn tell against an image; telling changes nothing.
func has(t *testing.T, d *disk.Disk, b []byte, turn uint32, what string) {
	t.Helper()
	s := stateOf(d)
	for range 2 {
		if got, e := Load(d); e != api.OK || !bytes.Equal(got, b) {
			t.Fatalf("%s: Load: %s, %v; not %s", what, short(got), e, short(b))
		}
		if n := Turn(d); n != turn {
			t.Fatalf("%s: Turn: %d, not %d", what, n, turn)
		}
	}
	if stateOf(d) != s {
		t.Fatalf("%s: the disk was changed", what)
	}
}

// hasNone wants a disk without an image.
func hasNone(t *testing.T, d *disk.Disk, what string) {
	t.Helper()
	s := stateOf(d)
	for range 2 {
		if b, e := Load(d); e != api.ErrImage || len(b) != 0 {
			t.Fatalf("%s: Load: %s, %v", what, short(b), e)
		}
		if n := Turn(d); n != 0 {
			t.Fatalf("%s: Turn: %d", what, n)
		}
	}
	if stateOf(d) != s {
		t.Fatalf("%s: the disk was changed", what)
	}
}

// save saves, and holds the answer against e; what is refused changes nothing.
func save(t *testing.T, d *disk.Disk, b []byte, e api.Errno, what string) {
	t.Helper()
	s := stateOf(d)
	if got := Save(d, b); got != e {
		t.Fatalf("%s: Save(%s): %v, not %v", what, short(b), got, e)
	}
	if e == api.ErrLong && stateOf(d) != s {
		t.Fatalf("%s: what was refused changed the disk", what)
	}
}

// P8.2: a new disk has no image.
func TestNew(t *testing.T) {
	d := disk.New()
	hasNone(t, d, "new")
	d.Arm(3)
	hasNone(t, d, "new, armed")
	if stateOf(d) != (state{armed: true}) {
		t.Error("the disk was changed")
	}
}

// P8.2: the chapter's example.
func TestExample(t *testing.T) {
	d := disk.New()
	save(t, d, []byte("a"), api.OK, "a")
	save(t, d, []byte("b"), api.OK, "b")
	has(t, d, []byte("b"), 2, "example")
}

// P8.2: behind each of many Saves Load tells what it saved, Turn how many there
// were; each stands in the area that hasn't the one ahead, the first in area 0.
func TestSaveMany(t *testing.T) {
	d := disk.New()
	var s state
	for i := range 300 {
		b, what := some(i*37%500, i), fmt.Sprintf("save %d", i+1)
		save(t, d, b, api.OK, what)
		s.areas[i%2] = string(framed(uint32(i+1), b))
		if stateOf(d) != s {
			t.Fatalf("%s: the areas are %s, %s", what, short(d.Read(0)), short(d.Read(1)))
		}
		has(t, d, b, uint32(i+1), what)
	}
}

// P8.2: the same bytes, and none, are saved as any others.
func TestSaveSame(t *testing.T) {
	for _, b := range [][]byte{nil, {}, []byte("same"), some(longest, 1)} {
		d := disk.New()
		for i := range uint32(5) {
			save(t, d, b, api.OK, "the same")
			has(t, d, b, i+1, "the same")
			area := d.Read(int(i % 2))
			if !bytes.Equal(area, framed(i+1, b)) {
				t.Fatalf("save %d: %s", i+1, short(area))
			}
		}
	}
}

// areas is a row of a table: both areas, which one has the image (none: -1),
// what it is.
type areas struct {
	zero, one []byte
	area      int
	turn      uint32
	b         string
}

// spoilt are bytes that are no frame, though most come from one.
func spoilt() [][]byte {
	f := text(1000, "spoilt")
	return [][]byte{
		nil, f[:1], f[:8], f[:len(f)-1], f[1:], append(slices.Clone(f), 0), told(last, 5, []byte("spoilt")),
		told(last, 7, []byte("spoilt")), told(1000, last, []byte("spoilt")), make([]byte, 16), make([]byte, most),
		bytes.Repeat([]byte{255}, 40), some(most, 1), []byte("rubbish"), sealed([]byte("rubbish")),
	}
}

func tables() []areas {
	rows := []areas{
		{text(1, "zero"), text(2, "one"), 1, 2, "one"},
		{text(2, "zero"), text(1, "one"), 0, 2, "zero"},
		{text(9, "zero"), text(9, "one"), 0, 9, "zero"},
		{text(9, "same"), text(9, "same"), 0, 9, "same"},
		{text(0, "zero"), text(0, "one"), 0, 0, "zero"},
		{text(1, "zero"), text(1, "one"), 0, 1, "zero"},
		{text(0, "zero"), text(1, "one"), 1, 1, "one"},
		{text(1, "zero"), text(0, "one"), 0, 1, "zero"},
		{text(0, ""), text(0, "one"), 0, 0, ""},
		{text(5, ""), text(4, "one"), 0, 5, ""},
		{text(4, "zero"), text(5, ""), 1, 5, ""},
		{text(5, "longer than that"), text(6, "b"), 1, 6, "b"},
		{text(6, "b"), text(5, "longer than that"), 0, 6, "b"},
		{text(3, "zero"), text(900, "one"), 1, 900, "one"},
		{text(255, "zero"), text(256, "one"), 1, 256, "one"},
		{text(256, "zero"), text(255, "one"), 0, 256, "zero"},
		{text(0x01000000, "zero"), text(0x00ffffff, "one"), 0, 0x01000000, "zero"},
		{text(math.MaxInt32, "zero"), text(1<<31, "one"), 1, 1 << 31, "one"},
		{text(1<<31, "zero"), text(math.MaxInt32, "one"), 0, 1 << 31, "zero"},
		{text(0, "zero"), text(last-1, "one"), 1, last - 1, "one"},
		{text(last-1, "zero"), text(0, "one"), 0, last - 1, "zero"},
		{text(1, "zero"), text(1<<31, "one"), 1, 1 << 31, "one"},
		{text(last-1, "zero"), text(last-1, "one"), 0, last - 1, "zero"},
		{text(last-2, "zero"), text(last-1, "one"), 1, last - 1, "one"},
	}
	for _, x := range spoilt() {
		for _, turn := range []uint32{0, 1, 7, 1 << 31, last - 1} {
			rows = append(rows, areas{text(turn, "zero"), x, 0, turn, "zero"}, areas{x, text(turn, "one"), 1, turn, "one"},
				areas{text(turn, ""), x, 0, turn, ""}, areas{x, text(turn, ""), 1, turn, ""})
		}
		for _, y := range spoilt() {
			rows = append(rows, areas{zero: x, one: y, area: -1})
		}
	}
	return rows
}

// sized tells a row's areas.
func sized(row areas) string { return short(row.zero) + " and " + short(row.one) }

// P8.2: the area whose turn is the greatest has the image, area 0 if they are
// the same; of one frame that one, also with turn 0; of none there is none.
func TestWhichArea(t *testing.T) {
	for _, row := range tables() {
		d := laid(t, row.zero, row.one)
		if row.area < 0 {
			hasNone(t, d, sized(row))
			continue
		}
		has(t, d, []byte(row.b), row.turn, sized(row))
	}
}

// P8.2: the next one is written to the other area, with the next turn; of none
// to area 0 with turn 1.
func TestSaveOther(t *testing.T) {
	for _, row := range tables() {
		d := laid(t, row.zero, row.one)
		s, to := stateOf(d), 0
		if row.area == 0 {
			to = 1
		}
		save(t, d, []byte("the next"), api.OK, sized(row))
		s.areas[to] = string(text(row.turn+1, "the next"))
		if stateOf(d) != s {
			t.Fatalf("%s: the areas are %s, %s", sized(row), short(d.Read(0)), short(d.Read(1)))
		}
		has(t, d, []byte("the next"), row.turn+1, sized(row))
	}
}

// P8.2: behind the greatest turn there is no other one: each Save is refused,
// and leaves both areas; the image is still told.
func TestLastTurn(t *testing.T) {
	for _, other := range append(spoilt(), text(0, "x"), text(7, "x"), text(last-1, "x"), text(last, "last")) {
		for _, pair := range [][2][]byte{{text(last, "last"), other}, {other, text(last, "last")}} {
			d := laid(t, pair[0], pair[1])
			for _, count := range []int{0, 1, longest, longest + 1} {
				save(t, d, some(count, 1), api.ErrLong, "the last turn")
				d.Arm(3)
				save(t, d, some(count, 1), api.ErrLong, "the last turn, armed")
				if !d.Armed() {
					t.Fatal("it isn't armed any more")
				}
			}
			has(t, d, []byte("last"), last, "the last turn")
		}
	}
	d := laid(t, text(last, "zero"), text(last, "one"))
	save(t, d, nil, api.ErrLong, "twice the last turn")
	has(t, d, []byte("zero"), last, "twice the last turn")
}

// P8.2: the greatest turn is reached, and nothing goes beyond it; once its
// frame is spoilt, the other one counts.
func TestUpToLastTurn(t *testing.T) {
	d := laid(t, text(last-2, "zero"), nil)
	save(t, d, []byte("one"), api.OK, "the last but one")
	has(t, d, []byte("one"), last-1, "the last but one")
	save(t, d, []byte("last"), api.OK, "the last")
	has(t, d, []byte("last"), last, "the last")
	save(t, d, []byte("more"), api.ErrLong, "one more")
	has(t, d, []byte("last"), last, "one more")
	d.Write(0, []byte("rubbish"))
	has(t, d, []byte("one"), last-1, "spoilt")
	save(t, d, []byte("again"), api.OK, "the last again")
	has(t, d, []byte("again"), last, "the last again")
	d.Write(0, nil)
	d.Write(1, nil)
	save(t, d, []byte("anew"), api.OK, "anew")
	has(t, d, []byte("anew"), 1, "anew")
}

// P8.2: the greatest count of bytes, one less and one more; what is refused
// leaves an armed disk armed, with as many bytes.
func TestSaveLong(t *testing.T) {
	for _, start := range []func(*disk.Disk){
		func(*disk.Disk) {},
		func(d *disk.Disk) { Save(d, []byte("a")) },
		func(d *disk.Disk) { Save(d, []byte("a")); Save(d, []byte("b")) },
	} {
		for _, count := range []int{longest + 1, longest + 2, longest + 24, longest + 25, most + 1, 65536, 65537, 105536, 200000} {
			d := disk.New()
			start(d)
			turn := Turn(d)
			save(t, d, some(count, 1), api.ErrLong, "too many")
			d.Arm(11)
			save(t, d, some(count, 1), api.ErrLong, "too many, armed")
			if Turn(d) != turn || !d.Armed() {
				t.Fatalf("%d bytes: turn %d, armed %v", count, Turn(d), d.Armed())
			}
			save(t, d, []byte("torn"), api.ErrPower, "armed")
			if got := d.Read(int(turn % 2)); !bytes.Equal(got, text(turn+1, "torn")[:11]) {
				t.Fatalf("%d bytes: torn to %x", count, got)
			}
		}
		for _, count := range []int{longest - 1, longest} {
			d := disk.New()
			start(d)
			turn := Turn(d)
			for i := range uint32(3) {
				b := some(count, int(i))
				save(t, d, b, api.OK, "just as many")
				has(t, d, b, turn+i+1, "just as many")
			}
		}
	}
}

// P8.2: a frame that an area holds is an image, also where Save would make no
// such one, up to all that the area takes.
func TestLongerImage(t *testing.T) {
	for _, count := range []int{longest, longest + 1, most - around} {
		b := some(count, 3)
		d := laid(t, text(4, "zero"), framed(5, b))
		has(t, d, b, 5, "longer")
		save(t, d, b[:longest], api.OK, "the next")
		has(t, d, b[:longest], 6, "the next")
		if !bytes.Equal(d.Read(1), framed(5, b)) {
			t.Error("the area that had it was written")
		}
	}
}

// P8.2: behind a frame that was spoilt the one ahead counts; the next one
// stands in its place.
func TestSaveBehindSpoilt(t *testing.T) {
	for _, x := range spoilt() {
		d := disk.New()
		b := []byte("0")
		save(t, d, b, api.OK, "the first")
		for i := 1; i < 6; i++ {
			next := []byte(fmt.Sprint(i))
			save(t, d, next, api.OK, "spoilt next")
			has(t, d, next, uint32(i+1), "spoilt next")
			d.Write(i%2, x)
			has(t, d, b, uint32(i), "spoilt")
			save(t, d, next, api.OK, "in its place")
			if got := d.Read(i % 2); !bytes.Equal(got, framed(uint32(i+1), next)) {
				t.Fatalf("area %d: %s", i%2, short(got))
			}
			has(t, d, next, uint32(i+1), "in its place")
			b = next
		}
	}
}

// P8.2: both spoilt: there is none; the next one is the first.
func TestBothSpoilt(t *testing.T) {
	for _, x := range spoilt() {
		d := disk.New()
		for range 5 {
			save(t, d, []byte("gone"), api.OK, "gone")
		}
		d.Write(0, x)
		d.Write(1, x)
		hasNone(t, d, "both spoilt")
		save(t, d, []byte("first"), api.OK, "first")
		has(t, d, []byte("first"), 1, "first")
		if !bytes.Equal(d.Read(0), text(1, "first")) || !bytes.Equal(d.Read(1), x) {
			t.Fatalf("%s: the areas are %s, %s", short(x), short(d.Read(0)), short(d.Read(1)))
		}
	}
}

// P8.2: what is saved and what is loaded are copies.
func TestSavedAndLoadedAreCopies(t *testing.T) {
	for _, count := range []int{0, 1, 33, longest} {
		d := disk.New()
		for turn := range uint32(3) {
			b := roomy(some(count, int(turn)))
			save(t, d, b, api.OK, "a copy")
			spoil(b)
			has(t, d, some(count, int(turn)), turn+1, "the bytes were changed")
			x, _ := Load(d)
			y, _ := Load(d)
			spoil(x)
			has(t, d, some(count, int(turn)), turn+1, "what was loaded was changed")
			if !bytes.Equal(y, some(count, int(turn))) {
				t.Fatal("what was loaded was changed with what was loaded")
			}
			save(t, d, []byte("another one"), api.OK, "another one")
			save(t, d, some(count, int(turn)), api.OK, "and back")
			if !bytes.Equal(y, some(count, int(turn))) {
				t.Fatal("what was loaded was changed by a save")
			}
			d = laid(t, nil, framed(turn+1, some(count, int(turn))))
		}
	}
}

// P8.2: what is saved on one disk no other one has.
func TestEachForItself(t *testing.T) {
	a, b := disk.New(), disk.New()
	save(t, a, []byte("a"), api.OK, "a")
	hasNone(t, b, "the other one")
	save(t, b, []byte("b"), api.OK, "b")
	save(t, b, []byte("c"), api.OK, "c")
	has(t, a, []byte("a"), 1, "the one")
	has(t, b, []byte("c"), 2, "the other one")
}

// torn arms d, saves, and wants the power to fail.
func torn(t *testing.T, d *disk.Disk, ahead int, b []byte) {
	t.Helper()
	d.Arm(ahead)
	save(t, d, b, api.ErrPower, fmt.Sprintf("armed with %d", ahead))
	if d.Armed() {
		t.Fatal("it is armed still")
	}
}

// P8.3: the first Save fails behind each number of bytes: there is an image
// only where all of it was written; the next one goes well.
func TestFirstTorn(t *testing.T) {
	for _, count := range []int{0, 1, 9, 60, longest} {
		b := some(count, 1)
		whole := count + around
		for _, n := range append(places(whole), -1, whole, whole+1, whole+1000, math.MaxInt64) {
			d := disk.New()
			torn(t, d, n, b)
			if got := d.Read(0); !bytes.Equal(got, framed(1, b)[:min(max(n, 0), whole)]) || len(d.Read(1)) != 0 {
				t.Fatalf("torn at %d: the areas are %s, %s", n, short(got), short(d.Read(1)))
			}
			turn := uint32(1)
			if n < whole {
				hasNone(t, d, "torn")
			} else {
				has(t, d, b, turn, "whole")
				turn++
			}
			save(t, d, []byte("next"), api.OK, "the next")
			has(t, d, []byte("next"), turn, "the next")
		}
	}
}

// P8.3: a later Save fails behind each number of bytes: the image is the one
// ahead, or the one that was saved where all of it was written; the area that
// had it isn't touched; the next one goes well.
func TestLaterTorn(t *testing.T) {
	for ahead := uint32(1); ahead <= 4; ahead++ {
		for _, sizes := range [][2]int{{5, 9}, {60, 0}, {0, 30}, {20, 20}, {longest, 40}, {40, longest}, {longest, longest}} {
			b, whole := some(sizes[1], 3), sizes[1]+around
			for _, n := range append(places(whole), -5, whole, whole+1, math.MaxInt64) {
				d := disk.New()
				old := some(sizes[0], 2)
				for range ahead {
					save(t, d, old, api.OK, "ahead")
				}
				from, to := int(ahead-1)%2, int(ahead)%2
				torn(t, d, n, b)
				left := framed(ahead+1, b)[:min(max(n, 0), whole)]
				if !bytes.Equal(d.Read(from), framed(ahead, old)) || !bytes.Equal(d.Read(to), left) {
					t.Fatalf("torn at %d: the areas are %s, %s", n, short(d.Read(0)), short(d.Read(1)))
				}
				turn := ahead
				if n < whole {
					has(t, d, old, turn, "torn")
				} else {
					turn++
					has(t, d, b, turn, "whole")
				}
				save(t, d, []byte("next"), api.OK, "the next")
				has(t, d, []byte("next"), turn+1, "the next")
			}
		}
	}
}

// P8.3: two failures, one behind the other: each leaves what was there, or its
// own.
func TestTornTwice(t *testing.T) {
	first, second := []byte("the first"), []byte("another")
	for _, start := range []int{0, 1, 2} {
		for n := range len(first) + around + 2 {
			for m := range len(second) + around + 2 {
				d := disk.New()
				var b []byte
				turn := uint32(start)
				for i := range start {
					b = fmt.Append(nil, i)
					save(t, d, b, api.OK, "ahead")
				}
				for i, x := range [][]byte{first, second} {
					cut := []int{n, m}[i]
					torn(t, d, cut, x)
					if cut >= len(x)+around {
						b, turn = x, turn+1
					}
					if turn == 0 {
						hasNone(t, d, "torn twice")
					} else {
						has(t, d, b, turn, "torn twice")
					}
				}
				save(t, d, []byte("next"), api.OK, "the next")
				has(t, d, []byte("next"), turn+1, "the next")
			}
		}
	}
}

// P8.3: the power fails at one Save behind the other: nothing is lost.
func TestTornOftenInARow(t *testing.T) {
	d := disk.New()
	save(t, d, []byte("kept"), api.OK, "kept")
	for i := range 100 {
		torn(t, d, i%20, []byte("lost"))
		has(t, d, []byte("kept"), 1, "torn again")
	}
	save(t, d, []byte("next"), api.OK, "the next")
	has(t, d, []byte("next"), 2, "the next")
}

// P8.2, P8.3: whatever is saved, torn and spoilt, it is as the chapter says.
func TestAsTheChapterSays(t *testing.T) {
	r := rand.New(rand.NewSource(8))
	for range 60 {
		d := disk.New()
		var turn [2]uint32
		var b [2][]byte
		var is [2]bool
		for step := range 80 {
			at := -1 // the area of the image
			for area := range 2 {
				if is[area] && (at < 0 || turn[area] > turn[at]) {
					at = area
				}
			}
			if at < 0 {
				hasNone(t, d, "none")
			} else {
				has(t, d, b[at], turn[at], "one")
			}
			area, next := r.Intn(2), some(r.Intn(40), step)
			switch r.Intn(5) {
			case 0:
				d.Write(area, spoilt()[r.Intn(len(spoilt()))])
				is[area] = false
				continue
			case 1:
				n := uint32(r.Intn(6))
				d.Write(area, framed(n, next))
				turn[area], b[area], is[area] = n, next, true
				continue
			}
			to, n, e := 0, uint32(1), api.OK
			if at >= 0 {
				to, n = 1-at, turn[at]+1
			}
			turn[to], b[to], is[to] = n, next, true
			if r.Intn(2) == 0 {
				cut := r.Intn(len(next) + around + 5)
				d.Arm(cut)
				e, is[to] = api.ErrPower, cut >= len(next)+around
			}
			save(t, d, next, e, "by the chapter")
		}
	}
}
