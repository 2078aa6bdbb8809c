package bits

import (
	"math"
	"testing"

	"palisade/api"
)

// words are numbers whose bits differ at the ends and in between.
var words = []uint64{0, 1, 2, 1 << 63, 1<<63 | 1, 0x123456789abcdef0, 0xfedcba9876543210, math.MaxUint64 - 1, math.MaxUint64}

// turned tells what Rotl must, one bit after the other.
func turned(x uint64, n int) uint64 {
	var out uint64
	for i := range 64 {
		to := ((i+n%64)%64 + 64) % 64
		out |= (x >> i & 1) << to
	}
	return out
}

// P1.1
func TestRotl(t *testing.T) {
	far := []int{math.MinInt, math.MinInt + 1, -1 << 32, -1<<32 - 3, 1 << 32, 1<<32 + 3, math.MaxInt - 1, math.MaxInt}
	for _, x := range words {
		for n := -130; n <= 130; n++ {
			if got, want := Rotl(x, n), turned(x, n); got != want {
				t.Errorf("Rotl(%#x, %d) = %#x, not %#x", x, n, got, want)
			}
		}
		for _, n := range far {
			if got, want := Rotl(x, n), turned(x, n); got != want {
				t.Errorf("Rotl(%#x, %d) = %#x, not %#x", x, n, got, want)
			}
		}
	}
}

// P1.1
func TestRotlByHand(t *testing.T) {
	cases := []struct {
		x    uint64
		n    int
		want uint64
	}{
		{1, 65, 2}, // the chapter's
		{1, 0, 1},
		{1, 1, 2},
		{1, 63, 1 << 63},
		{1, 64, 1},
		{1, 128, 1},
		{1, -1, 1 << 63},
		{1, -64, 1},
		{1, -65, 1 << 63},
		{1 << 63, 1, 1},
		{0x123456789abcdef0, 8, 0x3456789abcdef012},
		{0x123456789abcdef0, -8, 0xf0123456789abcde},
	}
	for _, c := range cases {
		if got := Rotl(c.x, c.n); got != c.want {
			t.Errorf("Rotl(%#x, %d) = %#x, not %#x", c.x, c.n, got, c.want)
		}
	}
}

// P1.1
func TestPackLaysEachPart(t *testing.T) {
	cases := []struct {
		a, b uint8
		c    uint16
		d    uint32
		want uint64
	}{
		{0, 0, 0, 0, 0},
		{math.MaxUint8, 0, 0, 0, 0xff00000000000000},
		{0, math.MaxUint8, 0, 0, 0x00ff000000000000},
		{0, 0, math.MaxUint16, 0, 0x0000ffff00000000},
		{0, 0, 0, math.MaxUint32, 0x00000000ffffffff},
		{1, 0, 0, 0, 1 << 56},
		{0, 1, 0, 0, 1 << 48},
		{0, 0, 1, 0, 1 << 32},
		{0, 0, 0, 1, 1},
		{0x12, 0x34, 0x5678, 0x9abcdef0, 0x123456789abcdef0},
		{math.MaxUint8, math.MaxUint8, math.MaxUint16, math.MaxUint32, math.MaxUint64},
	}
	for _, c := range cases {
		if got := Pack(c.a, c.b, c.c, c.d); got != c.want {
			t.Errorf("Pack(%#x, %#x, %#x, %#x) = %#x, not %#x", c.a, c.b, c.c, c.d, got, c.want)
		}
		a, b, cc, d := Unpack(c.want)
		if a != c.a || b != c.b || cc != c.c || d != c.d {
			t.Errorf("Unpack(%#x) = %#x, %#x, %#x, %#x", c.want, a, b, cc, d)
		}
	}
}

// P1.3
func TestPackedIsUnpacked(t *testing.T) {
	bytes := []uint8{0, 1, 0x7f, 0x80, 0xa5, math.MaxUint8}
	halves := []uint16{0, 1, 0x7fff, 0x8000, 0xa53c, math.MaxUint16}
	wholes := []uint32{0, 1, 0x7fffffff, 0x80000000, 0xa53c0ff1, math.MaxUint32}
	for _, a := range bytes {
		for _, b := range bytes {
			for _, c := range halves {
				for _, d := range wholes {
					a2, b2, c2, d2 := Unpack(Pack(a, b, c, d))
					if a2 != a || b2 != b || c2 != c || d2 != d {
						t.Errorf("%#x, %#x, %#x, %#x came back as %#x, %#x, %#x, %#x", a, b, c, d, a2, b2, c2, d2)
					}
				}
			}
		}
	}
	for _, x := range words {
		if got := Pack(Unpack(x)); got != x {
			t.Errorf("%#x unpacked and packed: %#x", x, got)
		}
	}
}

// signed tells what Narrow must, by the weight of each bit.
func signed(x int64, width int) int64 {
	var out int64
	for i := range width {
		bit := int64(uint64(x) >> i & 1)
		if i == width-1 {
			out -= bit << i
		} else {
			out += bit << i
		}
	}
	return out
}

// P1.1
func TestNarrow(t *testing.T) {
	for _, word := range words {
		x := int64(word)
		for width := 1; width <= 64; width++ {
			if got, want := Narrow(x, width), signed(x, width); got != want {
				t.Errorf("Narrow(%d, %d) = %d, not %d", x, width, got, want)
			}
		}
		for _, width := range []int{0, -1, -63, -64, -65, math.MinInt} {
			if got, want := Narrow(x, width), signed(x, 1); got != want {
				t.Errorf("Narrow(%d, %d) = %d, not %d", x, width, got, want)
			}
		}
		for _, width := range []int{65, 128, math.MaxInt} {
			if got := Narrow(x, width); got != x {
				t.Errorf("Narrow(%d, %d) = %d", x, width, got)
			}
		}
	}
}

// P1.1
func TestNarrowByHand(t *testing.T) {
	cases := []struct {
		x    int64
		bits int
		want int64
	}{
		{255, 8, -1}, // the chapter's
		{127, 8, 127},
		{128, 8, -128},
		{256, 8, 0},
		{-129, 8, 127},
		{0, 1, 0},
		{1, 1, -1},
		{2, 1, 0},
		{1, 0, -1},
		{1, -7, -1},
		{2, -7, 0},
		{5, 2, 1},
		{6, 2, -2},
		{math.MaxInt64, 63, -1},
		{math.MaxInt64, 64, math.MaxInt64},
		{math.MinInt64, 63, 0},
		{math.MinInt64, 64, math.MinInt64},
		{math.MinInt64, 65, math.MinInt64},
	}
	for _, c := range cases {
		if got := Narrow(c.x, c.bits); got != c.want {
			t.Errorf("Narrow(%d, %d) = %d, not %d", c.x, c.bits, got, c.want)
		}
	}
}

// P1.2: the sums are published ones of this kind of sum, not worked out here.
func TestSum(t *testing.T) {
	cases := []struct {
		b    []byte
		want uint64
	}{
		{nil, 14695981039346656037},
		{[]byte{}, 14695981039346656037},
		{[]byte{0}, 0xaf63bd4c8601b7df},
		{[]byte("a"), 0xaf63dc4c8601ec8c},
		{[]byte("foobar"), 0x85944171f73967e8},
	}
	for _, c := range cases {
		if got := Sum(c.b); got != c.want {
			t.Errorf("Sum(%v) = %#x, not %#x", c.b, got, c.want)
		}
	}
	if Sum([]byte{1, 2}) == Sum([]byte{2, 1}) {
		t.Error("Sum doesn't hang on the order")
	}
	if Sum([]byte{0}) == Sum([]byte{0, 0}) {
		t.Error("Sum doesn't hang on the length")
	}
}

// P1.2
func TestSumLeavesItsBytes(t *testing.T) {
	room := []byte{1, 2, 3, 4}
	first := Sum(room[:2])
	if room[0] != 1 || room[1] != 2 || room[2] != 3 || room[3] != 4 {
		t.Errorf("the bytes are now %v", room)
	}
	if Sum(room[:2]) != first || Sum([]byte{1, 2}) != first {
		t.Error("Sum hangs on more than the bytes")
	}
}

// P1.2
func TestMix(t *testing.T) {
	a, b := uint64(0x0102030405060708), uint64(0xf1f2f3f4f5f6f7f8)
	aBytes := []byte{1, 2, 3, 4, 5, 6, 7, 8}
	bBytes := []byte{0xf1, 0xf2, 0xf3, 0xf4, 0xf5, 0xf6, 0xf7, 0xf8}
	ab := append(append([]byte{}, aBytes...), bBytes...)
	ba := append(append([]byte{}, bBytes...), aBytes...)
	if got, want := Mix(a, b), Sum(ab); got != want {
		t.Errorf("Mix(a, b) = %#x, not %#x", got, want)
	}
	if got, want := Mix(b, a), Sum(ba); got != want {
		t.Errorf("Mix(b, a) = %#x, not %#x", got, want)
	}
	if Mix(a, b) == Mix(b, a) {
		t.Error("Mix is the same both ways round")
	}
	if got, want := Mix(0, 0), Sum(make([]byte, 16)); got != want {
		t.Errorf("Mix(0, 0) = %#x, not %#x", got, want)
	}
	if got, want := Mix(1, 1<<63), Sum([]byte{0, 0, 0, 0, 0, 0, 0, 1, 0x80, 0, 0, 0, 0, 0, 0, 0}); got != want {
		t.Errorf("Mix(1, 1<<63) = %#x, not %#x", got, want)
	}
}

// P1.2
func TestDouble(t *testing.T) {
	cases := []struct {
		t    uint32
		k    int
		want uint32
	}{
		{api.Patience, 0, 4},
		{api.Patience, 1, 8},
		{5, math.MinInt, 5},
		{5, -64, 5},
		{5, -1, 5},
		{5, 0, 5},
		{5, 1, 10},
		{5, 5, 160},
		{5, api.MaxDouble, 320},
		{5, api.MaxDouble + 1, 320},
		{5, 64, 320},
		{5, math.MaxInt, 320},
		{0, api.MaxDouble, 0},
		{1<<31 - 1, 0, 1<<31 - 1},
		{1 << 31, 0, 1 << 31},
		{1<<31 + 1, 0, 1 << 31},
		{math.MaxUint32, 0, 1 << 31},
		{math.MaxUint32, -1, 1 << 31},
		{1<<30 - 1, 1, 1<<31 - 2},
		{1 << 30, 1, 1 << 31},
		{1<<30 + 1, 1, 1 << 31},
		{1<<25 - 1, 6, 1<<31 - 64},
		{1 << 25, 6, 1 << 31},
		{1<<25 + 1, 6, 1 << 31},
		{1 << 26, 6, 1 << 31}, // 2^32: it would be 0 if it were cut first
		{1<<26 + 1, 6, 1 << 31},
		{1 << 31, 1, 1 << 31},
		{math.MaxUint32, 6, 1 << 31},
		{math.MaxUint32, math.MaxInt, 1 << 31},
	}
	for _, c := range cases {
		if got := Double(c.t, c.k); got != c.want {
			t.Errorf("Double(%d, %d) = %d, not %d", c.t, c.k, got, c.want)
		}
	}
}
