package wire

import (
	"bytes"
	"math"
	"testing"

	"palisade/api"
)

// pattern is n bytes, each unlike its neighbours and the ones a power of two away.
func pattern(n int) []byte {
	b := make([]byte, n)
	for i := range b {
		b[i] = byte(i%251 + 1)
	}
	return b
}

// spoil writes over all of b, its spare room too.
func spoil(b []byte) {
	b = b[:cap(b)]
	for i := range b {
		b[i] ^= 0xff
	}
}

// P2.1
func TestWriteNumbers(t *testing.T) {
	cases := []struct {
		name  string
		write func(w *Writer)
		want  string
	}{
		{"U8 least", func(w *Writer) { w.U8(0) }, "\x00"},
		{"U8", func(w *Writer) { w.U8(0xab) }, "\xab"},
		{"U8 greatest", func(w *Writer) { w.U8(math.MaxUint8) }, "\xff"},
		{"U16 least", func(w *Writer) { w.U16(0) }, "\x00\x00"},
		{"U16 of one", func(w *Writer) { w.U16(1) }, "\x00\x01"},
		{"U16 of the chapter", func(w *Writer) { w.U16(258) }, "\x01\x02"},
		{"U16", func(w *Writer) { w.U16(0xa1b2) }, "\xa1\xb2"},
		{"U16 greatest", func(w *Writer) { w.U16(math.MaxUint16) }, "\xff\xff"},
		{"U32 least", func(w *Writer) { w.U32(0) }, "\x00\x00\x00\x00"},
		{"U32 of one", func(w *Writer) { w.U32(1) }, "\x00\x00\x00\x01"},
		{"U32", func(w *Writer) { w.U32(0xa1b2c3d4) }, "\xa1\xb2\xc3\xd4"},
		{"U32 greatest", func(w *Writer) { w.U32(math.MaxUint32) }, "\xff\xff\xff\xff"},
		{"U64 least", func(w *Writer) { w.U64(0) }, "\x00\x00\x00\x00\x00\x00\x00\x00"},
		{"U64 of one", func(w *Writer) { w.U64(1) }, "\x00\x00\x00\x00\x00\x00\x00\x01"},
		{"U64", func(w *Writer) { w.U64(0xa1b2c3d4e5f60718) }, "\xa1\xb2\xc3\xd4\xe5\xf6\x07\x18"},
		{"U64 greatest", func(w *Writer) { w.U64(math.MaxUint64) }, "\xff\xff\xff\xff\xff\xff\xff\xff"},
		{"all in turn", func(w *Writer) { w.U32(0x01020304); w.U8(5); w.U64(0x060708090a0b0c0d); w.U16(0x0e0f) },
			"\x01\x02\x03\x04\x05\x06\x07\x08\x09\x0a\x0b\x0c\x0d\x0e\x0f"},
	}
	for _, c := range cases {
		w := New()
		c.write(w)
		if got := w.All(); string(got) != c.want {
			t.Errorf("%s: %x, not %x", c.name, got, c.want)
		}
	}
}

// P2.1
func TestWriteBytes(t *testing.T) {
	long := pattern(131074)
	cases := []struct {
		name   string
		b      []byte
		length string
		want   []byte
	}{
		{"nil", nil, "\x00\x00", nil},
		{"none", []byte{}, "\x00\x00", nil},
		{"one", []byte{7}, "\x00\x01", []byte{7}},
		{"some", []byte("abc"), "\x00\x03", []byte("abc")},
		{"255", long[:255], "\x00\xff", long[:255]},
		{"256", long[:256], "\x01\x00", long[:256]},
		{"65534", long[:65534], "\xff\xfe", long[:65534]},
		{"65535", long[:65535], "\xff\xff", long[:65535]},
		{"65536", long[:65536], "\xff\xff", long[:65535]},
		{"65537", long[:65537], "\xff\xff", long[:65535]},
		{"131074", long, "\xff\xff", long[:65535]},
	}
	for _, c := range cases {
		w := New()
		w.U8(9)
		w.Bytes(c.b)
		w.U8(8)
		want := append([]byte("\x09"+c.length), c.want...)
		want = append(want, 8)
		if got := w.All(); !bytes.Equal(got, want) {
			t.Errorf("Bytes of %s: %d bytes, not the %d awaited", c.name, len(got), len(want))
		}
	}
}

// P2.1
func TestAllOfNothing(t *testing.T) {
	w := New()
	if got := w.All(); len(got) != 0 {
		t.Errorf("All of nothing: %x", got)
	}
	w.U8(1)
	if got := w.All(); string(got) != "\x01" {
		t.Errorf("All behind one write: %x", got)
	}
}

// P2.1
func TestAllIsNewMemory(t *testing.T) {
	w := New()
	w.Bytes([]byte("abc"))
	first, second := w.All(), w.All()
	if !bytes.Equal(first, second) || string(first) != "\x00\x03abc" {
		t.Fatalf("All twice: %x and %x", first, second)
	}
	w.U64(math.MaxUint64)
	if string(first) != "\x00\x03abc" {
		t.Errorf("a later write changed an answer: %x", first)
	}
	spoil(first)
	if string(second) != "\x00\x03abc" {
		t.Errorf("an answer changed another: %x", second)
	}
	w.U8(2)
	if got := w.All(); string(got) != "\x00\x03abc\xff\xff\xff\xff\xff\xff\xff\xff\x02" {
		t.Errorf("an answer changed the writer: %x", got)
	}
}

// P2.1: room that is spoilt in an answer isn't what the writer writes into next.
func TestAllSharesNoSpareRoom(t *testing.T) {
	w := New()
	var want []byte
	for i := range 100 {
		w.U8(uint8(i))
		want = append(want, uint8(i))
		got := w.All()
		if !bytes.Equal(got, want) {
			t.Fatalf("behind %d writes: %x", i+1, got)
		}
		room := got[:cap(got)]
		w.U8(0xee)
		want = append(want, 0xee)
		spoil(room)
		if got := w.All(); !bytes.Equal(got, want) {
			t.Fatalf("behind %d writes: an answer's room changed the writer: %x", i+1, got)
		}
	}
}

// P2.1
func TestBytesKeepsNothing(t *testing.T) {
	room := []byte("abcdef")
	in := room[1:3]
	w := New()
	w.Bytes(in)
	w.Bytes(in)
	w.U32(0x01020304)
	if string(room) != "abcdef" {
		t.Errorf("what was handed in was changed: %q", room)
	}
	spoil(room)
	if got := w.All(); string(got) != "\x00\x02bc\x00\x02bc\x01\x02\x03\x04" {
		t.Errorf("what was handed in was kept: %x", got)
	}
}

// P2.1: one writer isn't touched by another.
func TestWritersApart(t *testing.T) {
	a, b := New(), New()
	a.U8(1)
	b.U8(2)
	a.U8(3)
	if string(a.All()) != "\x01\x03" || string(b.All()) != "\x02" {
		t.Errorf("%x and %x", a.All(), b.All())
	}
}

// width is one of the reading calls of numbers, with its answer made wide.
type width struct {
	name  string
	bytes int
	read  func(r *Reader) (uint64, api.Errno)
}

func widths() []width {
	return []width{
		{"U8", 1, func(r *Reader) (uint64, api.Errno) { n, e := r.U8(); return uint64(n), e }},
		{"U16", 2, func(r *Reader) (uint64, api.Errno) { n, e := r.U16(); return uint64(n), e }},
		{"U32", 4, func(r *Reader) (uint64, api.Errno) { n, e := r.U32(); return uint64(n), e }},
		{"U64", 8, func(r *Reader) (uint64, api.Errno) { return r.U64() }},
	}
}

// number is what the first n bytes of b tell, the highest first.
func number(b []byte, n int) uint64 {
	var sum uint64
	for _, c := range b[:n] {
		sum = sum*256 + uint64(c)
	}
	return sum
}

// P2.2
func TestReadNumbers(t *testing.T) {
	inputs := [][]byte{
		[]byte("\x00\x00\x00\x00\x00\x00\x00\x00"),
		[]byte("\xff\xff\xff\xff\xff\xff\xff\xff"),
		[]byte("\xa1\xb2\xc3\xd4\xe5\xf6\x07\x18"),
		[]byte("\x01\x02\x03\x04\x05\x06\x07\x08"),
		[]byte("\x80\x00\x00\x00\x00\x00\x00\x01"),
	}
	for _, v := range widths() {
		for _, in := range inputs {
			for more := range 3 {
				b := append(bytes.Clone(in[:v.bytes]), pattern(more)...)
				r := Open(b)
				if r.Left() != v.bytes+more {
					t.Errorf("%s of %x: %d left ahead", v.name, b, r.Left())
				}
				n, e := v.read(r)
				if n != number(b, v.bytes) || e != api.OK || r.Left() != more {
					t.Errorf("%s of %x: %#x, %d, %d left", v.name, b, n, e, r.Left())
				}
			}
		}
	}
	if n, e := Open([]byte("\x01\x02")).U16(); n != 258 || e != api.OK {
		t.Errorf("the chapter's: %d, %d", n, e)
	}
}

// P2.2
func TestReadNumbersShort(t *testing.T) {
	for _, v := range widths() {
		for have := range v.bytes {
			in := bytes.Repeat([]byte{0xcc}, have)
			r := Open(in)
			for range 2 {
				n, e := v.read(r)
				if n != 0 || e != api.ErrShort || r.Left() != have {
					t.Errorf("%s of %d bytes: %#x, %d, %d left", v.name, have, n, e, r.Left())
				}
			}
			for i := range have {
				n, e := r.U8()
				if n != 0xcc || e != api.OK || r.Left() != have-i-1 {
					t.Errorf("U8 behind a refused %s: %#x, %d, %d left", v.name, n, e, r.Left())
				}
			}
		}
	}
}

// P2.2: bytes that the input has only as spare room aren't left.
func TestReadStopsAtLength(t *testing.T) {
	room := []byte("\x00\x04abcd\x01\x02")
	for _, v := range widths() {
		if n, e := v.read(Open(room[:v.bytes-1])); n != 0 || e != api.ErrShort {
			t.Errorf("%s read the spare room: %#x, %d", v.name, n, e)
		}
	}
	for have := range 6 {
		if b, e := Open(room[:have]).Bytes(4); len(b) != 0 || e != api.ErrShort {
			t.Errorf("Bytes of %d read the spare room: %x, %d", have, b, e)
		}
	}
}

// P2.2
func TestReadBytes(t *testing.T) {
	full := append([]byte("\xff\xff"), pattern(65536)...)
	cases := []struct {
		name string
		in   []byte
		most int
		want []byte
		err  api.Errno
		left int
	}{
		{"nothing at all", nil, 5, nil, api.ErrShort, 0},
		{"no length, most 0", []byte{}, 0, nil, api.ErrShort, 0},
		{"no length, most below 0", nil, -1, nil, api.ErrShort, 0},
		{"half a length", []byte{0}, 5, nil, api.ErrShort, 1},
		{"half a length that would be too long", []byte{9}, 5, nil, api.ErrShort, 1},
		{"half a length, most below 0", []byte{0}, -1, nil, api.ErrShort, 1},
		{"length 0", []byte{0, 0}, 0, nil, api.OK, 0},
		{"length 0, more behind", []byte{0, 0, 1, 2}, 0, nil, api.OK, 2},
		{"length 0, most -1", []byte{0, 0, 1}, -1, nil, api.ErrLong, 3},
		{"length 0, most lowest", []byte{0, 0}, math.MinInt, nil, api.ErrLong, 2},
		{"just most", []byte("\x00\x03abc"), 3, []byte("abc"), api.OK, 0},
		{"just most, more behind", []byte("\x00\x03abcde"), 3, []byte("abc"), api.OK, 2},
		{"below most", []byte("\x00\x03abcde"), 4, []byte("abc"), api.OK, 2},
		{"far below most", []byte("\x00\x03abcde"), math.MaxInt, []byte("abc"), api.OK, 2},
		{"one above most", []byte("\x00\x03abc"), 2, nil, api.ErrLong, 5},
		{"above most 0", []byte("\x00\x01a"), 0, nil, api.ErrLong, 3},
		{"above most below 0", []byte("\x00\x01a"), -7, nil, api.ErrLong, 3},
		{"one byte too few", []byte("\x00\x03ab"), 3, nil, api.ErrShort, 4},
		{"one byte too few, most wide", []byte("\x00\x03ab"), 1000, nil, api.ErrShort, 4},
		{"no byte behind the length", []byte("\x00\x01"), 1, nil, api.ErrShort, 2},
		{"both errors", []byte("\x00\x03ab"), 2, nil, api.ErrLong, 4},
		{"both errors, no byte", []byte("\x00\x01"), 0, nil, api.ErrLong, 2},
		{"both errors, most below 0", []byte("\xff\xff"), -1, nil, api.ErrLong, 2},
		{"a length of two bytes", append([]byte("\x01\x02"), pattern(258)...), 258, pattern(258), api.OK, 0},
		{"a length of two bytes above most", append([]byte("\x01\x02"), pattern(258)...), 257, nil, api.ErrLong, 260},
		{"the longest", full, 65535, pattern(65535), api.OK, 1},
		{"the longest above most", full, 65534, nil, api.ErrLong, len(full)},
		{"the longest, one short", full[:65536], 65535, nil, api.ErrShort, 65536},
	}
	for _, c := range cases {
		r := Open(c.in)
		if r.Left() != len(c.in) {
			t.Errorf("%s: %d left ahead", c.name, r.Left())
		}
		b, e := r.Bytes(c.most)
		if !bytes.Equal(b, c.want) || e != c.err || r.Left() != c.left {
			t.Errorf("%s: %d bytes, %d, %d left", c.name, len(b), e, r.Left())
		}
	}
}

// P2.2
func TestReadOnBehindErrors(t *testing.T) {
	r := Open([]byte("\x00\x03ab"))
	refuse := func() {
		t.Helper()
		if b, e := r.Bytes(2); len(b) != 0 || e != api.ErrLong || r.Left() != 4 {
			t.Errorf("Bytes(2): %x, %d, %d left", b, e, r.Left())
		}
		if b, e := r.Bytes(3); len(b) != 0 || e != api.ErrShort || r.Left() != 4 {
			t.Errorf("Bytes(3): %x, %d, %d left", b, e, r.Left())
		}
		if n, e := r.U64(); n != 0 || e != api.ErrShort || r.Left() != 4 {
			t.Errorf("U64: %d, %d, %d left", n, e, r.Left())
		}
	}
	refuse()
	refuse()
	if n, e := r.U32(); n != 0x00036162 || e != api.OK || r.Left() != 0 {
		t.Errorf("U32 behind errors: %#x, %d, %d left", n, e, r.Left())
	}

	r = Open([]byte("\x00\x02xy"))
	if _, e := r.Bytes(1); e != api.ErrLong {
		t.Errorf("Bytes(1): %d", e)
	}
	if b, e := r.Bytes(2); string(b) != "xy" || e != api.OK || r.Left() != 0 {
		t.Errorf("Bytes(2) behind an error: %q, %d, %d left", b, e, r.Left())
	}
}

// P2.2
func TestReaderKeepsNothing(t *testing.T) {
	room := []byte("\x07\x00\x02xy\x00\x03abc\x09zz")
	whole := bytes.Clone(room)
	r := Open(room[:11])
	first, e1 := r.U8()
	x, e2 := r.Bytes(2)
	if !bytes.Equal(room, whole) {
		t.Errorf("what was handed in was changed: %x", room)
	}
	spoil(room)
	y, e3 := r.Bytes(3)
	if first != 7 || string(x) != "xy" || string(y) != "abc" || e1 != api.OK || e2 != api.OK || e3 != api.OK {
		t.Errorf("what was handed in was kept: %d, %q, %q", first, x, y)
	}
	if last, e := r.U8(); last != 9 || e != api.OK {
		t.Errorf("what was handed in was kept: %d, %d", last, e)
	}
}

// P2.2
func TestReadBytesIsNewMemory(t *testing.T) {
	in := []byte("\x00\x02xy\x00\x03abc\x00\x00\x09")
	whole := bytes.Clone(in)
	r := Open(in)
	x, _ := r.Bytes(9)
	spoil(x)
	y, e := r.Bytes(9)
	if string(y) != "abc" || e != api.OK {
		t.Fatalf("an answer changed the reader: %q, %d", y, e)
	}
	none, e := r.Bytes(9)
	if len(none) != 0 || e != api.OK {
		t.Fatalf("Bytes of none: %q, %d", none, e)
	}
	spoil(none)
	if last, e := r.U8(); last != 9 || e != api.OK {
		t.Errorf("an answer's room changed the reader: %d, %d", last, e)
	}
	if string(y) != "abc" || !bytes.Equal(in, whole) {
		t.Errorf("an answer changed another or what was handed in: %q, %x", y, in)
	}
}

// P2.2: one reader isn't touched by another of the same bytes.
func TestReadersApart(t *testing.T) {
	in := []byte{1, 2, 3}
	a, b := Open(in), Open(in)
	a.U16()
	if a.Left() != 1 || b.Left() != 3 {
		t.Errorf("%d and %d left", a.Left(), b.Left())
	}
}

// item is a call of a writer and what its reading call must answer.
type item struct {
	kind int
	n    uint64
	b    []byte
}

func (i item) write(w *Writer) {
	switch i.kind {
	case 0:
		w.U8(uint8(i.n))
	case 1:
		w.U16(uint16(i.n))
	case 2:
		w.U32(uint32(i.n))
	case 3:
		w.U64(i.n)
	default:
		w.Bytes(i.b)
	}
}

func (i item) check(t *testing.T, r *Reader) {
	t.Helper()
	if i.kind > 3 {
		want := i.b[:min(len(i.b), 65535)]
		b, e := r.Bytes(len(want))
		if !bytes.Equal(b, want) || e != api.OK {
			t.Errorf("%d bytes are read as %d, %d", len(want), len(b), e)
		}
		return
	}
	v := widths()[i.kind]
	want := i.n << (64 - 8*v.bytes) >> (64 - 8*v.bytes)
	n, e := v.read(r)
	if n != want || e != api.OK {
		t.Errorf("%s of %#x is read as %#x, %d", v.name, want, n, e)
	}
}

// size is how many bytes the item's call writes.
func (i item) size() int {
	if i.kind > 3 {
		return 2 + min(len(i.b), 65535)
	}
	return widths()[i.kind].bytes
}

func roundTrip(t *testing.T, items []item) {
	t.Helper()
	w := New()
	size := 0
	for _, i := range items {
		i.write(w)
		size += i.size()
		if got := len(w.All()); got != size {
			t.Errorf("%d bytes written, not %d", got, size)
		}
	}
	r := Open(w.All())
	for _, i := range items {
		i.check(t, r)
		size -= i.size()
		if r.Left() != size {
			t.Errorf("%d left, not %d", r.Left(), size)
		}
	}
	if n, e := r.U8(); n != 0 || e != api.ErrShort {
		t.Errorf("more than was written: %d, %d", n, e)
	}
}

// P2.3: every order of three calls.
func TestReadBackOrders(t *testing.T) {
	some := [5]item{
		{kind: 0, n: 0xa1},
		{kind: 1, n: 0xb1b2},
		{kind: 2, n: 0xc1c2c3c4},
		{kind: 3, n: 0xd1d2d3d4d5d6d7d8},
		{kind: 4, b: []byte("\x01\x02\x03")},
	}
	for _, a := range some {
		for _, b := range some {
			for _, c := range some {
				roundTrip(t, []item{a, b, c})
			}
		}
	}
}

// P2.3: the ends of each width, and bytes of every kind of length.
func TestReadBackEdges(t *testing.T) {
	numbers := []uint64{0, 1, 0x7f, 0x80, 0xff, 0x100, 0x7fff, 0x8000, math.MaxUint16, 1 << 16, 1 << 31,
		math.MaxUint32, 1 << 32, 0x0123456789abcdef, 1 << 63, math.MaxUint64}
	var items []item
	for _, n := range numbers {
		for kind := range 4 {
			items = append(items, item{kind: kind, n: n})
		}
	}
	roundTrip(t, items)
	long := pattern(70000)
	for _, n := range []int{0, 1, 2, 255, 256, 257, 65534, 65535, 65536, 70000} {
		roundTrip(t, []item{{kind: 1, n: 7}, {kind: 4, b: long[:n]}, {kind: 4}, {kind: 0, n: 8}})
	}
	roundTrip(t, nil)
}

// P2.3: long mixed sequences from a fixed rule.
func TestReadBackMixed(t *testing.T) {
	state := uint64(1)
	next := func() uint64 {
		state = state*6364136223846793005 + 1442695040888963407
		return state ^ state>>29
	}
	for range 200 {
		var items []item
		for range next() % 40 {
			items = append(items, item{kind: int(next() % 5), n: next(), b: pattern(int(next() % 300))})
		}
		roundTrip(t, items)
	}
}
