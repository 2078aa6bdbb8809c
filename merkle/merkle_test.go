package merkle

import (
	"bytes"
	"encoding/binary"
	"fmt"
	"hash/fnv"
	"math"
	"math/rand"
	"slices"
	"testing"

	"palisade/api"
	"palisade/page"
)

const (
	keys, clients, pages, groupsOf = 64, 4, 8, 4
	last                           = math.MaxUint32
)

// sumOf is the library's sum of this kind.
func sumOf(b []byte) uint64 {
	h := fnv.New64a()
	h.Write(b)
	return h.Sum64()
}

// mixOf says bits.Mix once more.
func mixOf(a, b uint64) uint64 {
	return sumOf(binary.BigEndian.AppendUint64(binary.BigEndian.AppendUint64(nil, a), b))
}

// groupOf says P10.1 of Group once more.
func groupOf(l []uint64, g int) uint64 {
	if len(l) != pages || g < 0 || g > 3 {
		return 0
	}
	return mixOf(l[2*g], l[2*g+1])
}

// rootOf says P10.1 of Root once more, of the eight sums themselves.
func rootOf(l []uint64) uint64 {
	if len(l) != pages {
		return 0
	}
	return mixOf(
		mixOf(mixOf(l[0], l[1]), mixOf(l[2], l[3])),
		mixOf(mixOf(l[4], l[5]), mixOf(l[6], l[7])),
	)
}

// bytesOf tells page p's bytes by what else the map tells.
func bytesOf(m *page.Map, p int) []byte {
	var out []byte
	for k := range uint8(keys) {
		if v := m.Get(k); v != 0 && int(k)%7 == p {
			out = binary.BigEndian.AppendUint16(append(out, k), v)
		}
	}
	for id := uint8(1); id <= clients && p == 7; id++ {
		if ts, result := m.Client(id); ts != 0 {
			out = binary.BigEndian.AppendUint32(append(out, id), ts)
			out = binary.BigEndian.AppendUint32(out, result)
		}
	}
	return out
}

// sumsOf says P10.1 of Sums once more.
func sumsOf(m *page.Map) []uint64 {
	var out []uint64
	for p := range pages {
		out = append(out, sumOf(append([]byte{byte(p)}, bytesOf(m, p)...)))
	}
	return out
}

// numbered is the byte that a page's number has.
type numbered struct {
	p    int
	byte byte
}

// numberedPages are pages that there are and others, their bytes written out.
func numberedPages() []numbered {
	return []numbered{
		{0, 0}, {1, 1}, {2, 2}, {3, 3}, {4, 4}, {5, 5}, {6, 6}, {7, 7}, {8, 8}, {9, 9},
		{127, 127}, {128, 128}, {254, 254}, {255, 255}, {256, 0}, {257, 1}, {263, 7}, {511, 255}, {512, 0},
		{-1, 255}, {-2, 254}, {-7, 249}, {-128, 128}, {-129, 127}, {-255, 1}, {-256, 0}, {-257, 255}, {-512, 0},
		{1 << 16, 0}, {1<<32 + 5, 5}, {-1<<32 + 6, 6}, {1<<32 - 1, 255},
		{math.MaxInt32, 255}, {math.MinInt32, 0}, {math.MaxInt32 + 1, 0}, {math.MinInt32 - 1, 255},
		{math.MaxInt, 255}, {math.MaxInt - 1, 254}, {math.MinInt, 0}, {math.MinInt + 1, 1},
	}
}

// lists are bytes: none, one, as many as a page has, many more.
func lists() [][]byte {
	out := [][]byte{nil, {}, {0}, {1}, {255}, {0, 0}, {1, 2}, {2, 1}, {8, 0, 5}}
	r := rand.New(rand.NewSource(10))
	for _, n := range []int{3, 7, 8, 27, 36, api.MaxPage - 1, api.MaxPage, api.MaxPage + 1, 1000, 70000} {
		b := make([]byte, n)
		r.Read(b)
		out = append(out, b, make([]byte, n))
	}
	return out
}

// roomy is l at the front of a longer list that is filled with x.
func roomy[T any](l []T, x T) []T {
	return slices.Concat(l, slices.Repeat([]T{x}, 9))[:len(l)]
}

// withRoom is a copy of a list and its spare room, to hold them against later.
func withRoom[T any](l []T) []T { return slices.Clone(l[:cap(l)]) }

// spoil changes what was told, and the spare room behind it.
func spoil[T int | uint64](l []T) {
	l = l[:cap(l)]
	for i := range l {
		l[i] ^= 0x5a
	}
}

// P10.1, P10.2: the limits are those that these tests are written for.
func TestLimits(t *testing.T) {
	if api.Pages != pages || api.Keys != keys || api.Clients != clients {
		t.Error("other limits than these tests are written for")
	}
}

// P10.1: Leaf is the sum of the page's number modulo 256 and the bytes.
func TestLeaf(t *testing.T) {
	for _, n := range numberedPages() {
		for _, b := range lists() {
			if got, want := Leaf(n.p, b), sumOf(append([]byte{n.byte}, b...)); got != want {
				t.Errorf("Leaf(%d, %d bytes): %x, not %x", n.p, len(b), got, want)
			}
		}
	}
}

// P10.1: leaves that are published sums: those of the byte 0, of "a", of "foobar".
func TestLeafByHand(t *testing.T) {
	cases := []struct {
		p    int
		b    []byte
		want uint64
	}{
		{0, nil, 0xaf63bd4c8601b7df},
		{0, []byte{}, 0xaf63bd4c8601b7df},
		{256, nil, 0xaf63bd4c8601b7df},
		{-256, nil, 0xaf63bd4c8601b7df},
		{math.MinInt, nil, 0xaf63bd4c8601b7df},
		{'a', nil, 0xaf63dc4c8601ec8c},
		{'a' - 256, []byte{}, 0xaf63dc4c8601ec8c},
		{'f', []byte("oobar"), 0x85944171f73967e8},
		{'f' + 512, []byte("oobar"), 0x85944171f73967e8},
	}
	for _, c := range cases {
		if got := Leaf(c.p, c.b); got != c.want {
			t.Errorf("Leaf(%d, %q): %x, not %x", c.p, c.b, got, c.want)
		}
	}
}

// P10.1: no bytes are the same as a nil list and as an empty one.
func TestLeafOfNone(t *testing.T) {
	for p := -260; p < 520; p++ {
		none := Leaf(p, nil)
		if Leaf(p, []byte{}) != none || Leaf(p, []byte("spare")[:0]) != none || none != sumOf([]byte{byte(p)}) {
			t.Errorf("Leaf(%d, none): %x", p, none)
		}
	}
}

// P10.1: the same bytes on another page have another sum, as long as the
// numbers are unlike modulo 256.
func TestLeafNumberCounts(t *testing.T) {
	for _, b := range lists() {
		had := map[uint64]int{}
		for p := range 256 {
			l := Leaf(p, b)
			if q, ok := had[l]; ok {
				t.Errorf("pages %d and %d of %d bytes have one sum", q, p, len(b))
			}
			had[l] = p
			if Leaf(p-256, b) != l || Leaf(p+256, b) != l || Leaf(p+1<<40, b) != l {
				t.Errorf("page %d of %d bytes: not by its number modulo 256", p, len(b))
			}
		}
	}
}

// P10.1: each byte of a page counts, and how many there are, and their order.
func TestLeafBytesCount(t *testing.T) {
	for p := range pages {
		b := page.New().Page(p)
		for i := range 40 {
			b = append(b, byte(i*7))
		}
		was := Leaf(p, b)
		for i := range b {
			for _, x := range []byte{1, 2, 16, 128, 255} {
				c := slices.Clone(b)
				c[i] ^= x
				if Leaf(p, c) == was {
					t.Errorf("page %d: byte %d doesn't count", p, i)
				}
			}
			if Leaf(p, slices.Delete(slices.Clone(b), i, i+1)) == was {
				t.Errorf("page %d: without byte %d it has the same sum", p, i)
			}
			if i > 0 {
				c := slices.Clone(b)
				c[i-1], c[i] = c[i], c[i-1]
				if Leaf(p, c) == was {
					t.Errorf("page %d: bytes %d and %d in another order have the same sum", p, i-1, i)
				}
			}
		}
		if Leaf(p, append(b, 0)) == was || Leaf(p, append([]byte{0}, b...)) == was {
			t.Errorf("page %d: a 0 more has the same sum", p)
		}
	}
}

// P10.1: Leaf leaves the bytes that it was handed, and the spare room behind
// them, and hangs on nothing but them.
func TestLeafLeavesItsBytes(t *testing.T) {
	for _, b := range lists() {
		for _, x := range []byte{0, 1, 0xa5} {
			in := roomy(b, x)
			was := withRoom(in)
			for _, n := range numberedPages() {
				if Leaf(n.p, in) != Leaf(n.p, slices.Clip(slices.Clone(b))) {
					t.Fatalf("Leaf(%d, %d bytes) hangs on the spare room", n.p, len(b))
				}
			}
			if !bytes.Equal(in[:cap(in)], was) {
				t.Fatalf("%d bytes were changed", len(b))
			}
		}
	}
}

// filled is a map with a value of each key and an entry of each client.
func filled(seed int) *page.Map {
	m := page.New()
	for k := range keys {
		m.Put(uint8(k), uint16(k*257+seed*31+1))
	}
	for id := range clients {
		m.SetClient(uint8(id+1), uint32(0x01020304*(id+1)+seed), uint32(0xf1e2d3c4-id-seed))
	}
	return m
}

// drawn is a map of some keys and clients, values small and great.
func drawn(r *rand.Rand) *page.Map {
	m := page.New()
	for range r.Intn(90) {
		m.Put(uint8(r.Intn(keys)), uint16(r.Intn(1<<16)>>r.Intn(17)))
	}
	for range r.Intn(7) {
		m.SetClient(uint8(1+r.Intn(clients)), r.Uint32()>>r.Intn(33), r.Uint32()>>r.Intn(33))
	}
	return m
}

// maps are a new one, ones with one thing on one page, with one thing on each,
// filled ones, and drawn ones.
func maps() []*page.Map {
	each := page.New()
	out := []*page.Map{page.New(), each, filled(0), filled(1)}
	for p := range pages - 1 {
		one := page.New()
		one.Put(uint8(p+7), uint16(p+1))
		each.Put(uint8(p+7), uint16(p+1))
		out = append(out, one)
	}
	for id := range uint8(clients) {
		one := page.New()
		one.SetClient(id+1, 1, 0)
		each.SetClient(id+1, last, last-uint32(id))
		out = append(out, one)
	}
	r := rand.New(rand.NewSource(11))
	for range 30 {
		out = append(out, drawn(r))
	}
	return out
}

// P10.1: Sums are as many as there are pages, each the Leaf of its page's
// number and bytes.
func TestSums(t *testing.T) {
	for i, m := range maps() {
		l := Sums(m)
		if !slices.Equal(l, sumsOf(m)) {
			t.Fatalf("map %d: %x, not %x", i, l, sumsOf(m))
		}
		for p := range pages {
			if l[p] != Leaf(p, m.Page(p)) {
				t.Errorf("map %d: the sum of page %d isn't its Leaf", i, p)
			}
		}
	}
}

// P10.1: the sums of a new map and of one with a value and an entry, by the
// bytes written out.
func TestSumsByHand(t *testing.T) {
	for p, l := range Sums(page.New()) {
		if l != sumOf([]byte{byte(p)}) {
			t.Errorf("new: page %d: %x", p, l)
		}
	}
	m := page.New()
	m.Put(8, 5)
	m.SetClient(2, 3, 4)
	for p, b := range []string{"\x00", "\x01\x08\x00\x05", "\x02", "\x03", "\x04", "\x05", "\x06", "\x07\x02\x00\x00\x00\x03\x00\x00\x00\x04"} {
		if l := Sums(m); len(l) != pages || l[p] != sumOf([]byte(b)) {
			t.Errorf("page %d: %x", p, l)
		}
	}
}

// P10.1: Sums and Of leave the map as it is; what Sums told hangs on no other
// answer and on nothing that the map does later.
func TestSumsAreNew(t *testing.T) {
	for i, m := range maps() {
		had, want := m.Copy(), sumsOf(m)
		one, other := Sums(m), Sums(m)
		spoil(one)
		if !slices.Equal(other, want) || !slices.Equal(Sums(m), want) || Of(m) != rootOf(want) || !m.Same(had) {
			t.Fatalf("map %d: changed with an answer", i)
		}
		m.Put(3, m.Get(3)+1)
		m.SetClient(4, 77, 78)
		if !slices.Equal(other, want) {
			t.Fatalf("map %d: an answer was changed with the map", i)
		}
		if !slices.Equal(Sums(had), want) || !slices.Equal(Sums(m), sumsOf(m)) {
			t.Fatalf("map %d: the sums aren't those of the map as it is", i)
		}
	}
}

// edges are numbers at whose places sums are lost, turned or added over.
func edges() []uint64 {
	return []uint64{
		0, 1, 2, 255, 256, 1 << 31, 1<<32 - 1, 1 << 32, 1 << 63, 1<<63 - 1,
		math.MaxUint64, math.MaxUint64 - 1, 0x0102030405060708, 0xfedcba9876543210,
	}
}

// sumLists are lists that are one sum a page: of nothing, all alike, rising,
// at the edges, drawn, of maps.
func sumLists() [][]uint64 {
	r := rand.New(rand.NewSource(12))
	out := [][]uint64{make([]uint64, pages), {1, 2, 3, 4, 5, 6, 7, 8}, {8, 7, 6, 5, 4, 3, 2, 1}}
	for _, x := range edges() {
		out = append(out, slices.Repeat([]uint64{x}, pages))
	}
	for range 30 {
		l := make([]uint64, pages)
		for i := range l {
			l[i] = r.Uint64() >> r.Intn(65)
		}
		out = append(out, l)
	}
	for _, m := range maps() {
		out = append(out, Sums(m))
	}
	return out
}

// notWhole are lists that aren't one sum a page, made of those of l.
func notWhole(l []uint64) [][]uint64 {
	return [][]uint64{
		nil, {}, l[:0], l[:1], l[:2], l[:3], l[:4], l[:5], l[:6], l[:7], l[1:], l[7:], slices.Clip(l[:7]),
		append(slices.Clone(l), 0), append(slices.Clone(l), 1), append([]uint64{0}, l...), append(slices.Clone(l), l...),
		slices.Repeat(l, 32), slices.Repeat(l, 33), make([]uint64, 7), make([]uint64, 9), make([]uint64, 1),
	}
}

// places are groups that there are and others.
func places() []int {
	return []int{
		-1, 0, 1, 2, 3, 4, 5, 6, 7, 8, -2, -3, -4, -5, -8, 255, 256, -256, 1 << 16, 1 << 32, 1<<32 + 1, -1 << 32,
		math.MaxInt32, math.MinInt32, math.MaxInt, math.MaxInt - 1, math.MaxInt/2 + 1, math.MaxInt/2 + 2,
		math.MinInt, math.MinInt + 1, math.MinInt / 2, math.MinInt/2 + 1,
	}
}

// P10.1: Group is the Mix of its two sums; 0 of a group that there isn't, and of
// a list that isn't one sum a page.
func TestGroup(t *testing.T) {
	for _, l := range sumLists() {
		for _, g := range places() {
			if got, want := Group(l, g), groupOf(l, g); got != want {
				t.Errorf("Group(%x, %d): %x, not %x", l, g, got, want)
			}
		}
		for _, n := range notWhole(l) {
			for _, g := range places() {
				if got := Group(n, g); got != 0 {
					t.Errorf("Group(%d sums, %d): %x", len(n), g, got)
				}
			}
		}
	}
}

// P10.1: both sums of a group count, and their order, and no other sum.
func TestGroupCounts(t *testing.T) {
	for _, l := range sumLists() {
		for g := range groupsOf {
			was := Group(l, g)
			for i := range l {
				for _, x := range []uint64{1, 1 << 31, 1 << 32, 1 << 63, math.MaxUint64} {
					o := slices.Clone(l)
					o[i] ^= x
					if (Group(o, g) != was) != (i/2 == g) {
						t.Fatalf("%x: sum %d in group %d", l, i, g)
					}
				}
			}
			o := slices.Clone(l)
			o[2*g], o[2*g+1] = l[2*g+1], l[2*g]
			if (Group(o, g) == was) != (l[2*g] == l[2*g+1]) {
				t.Fatalf("%x: the order in group %d", l, g)
			}
		}
	}
}

// P10.1: Root is the Mix of the Mixes of the groups; 0 of a list that isn't one
// sum a page.
func TestRoot(t *testing.T) {
	for _, l := range sumLists() {
		if got, want := Root(l), rootOf(l); got != want {
			t.Errorf("Root(%x): %x, not %x", l, got, want)
		}
		left, right := mixOf(Group(l, 0), Group(l, 1)), mixOf(Group(l, 2), Group(l, 3))
		if got, want := Root(l), mixOf(left, right); got != want {
			t.Errorf("Root(%x): %x, by its groups %x", l, got, want)
		}
		for _, n := range notWhole(l) {
			if got := Root(n); got != 0 {
				t.Errorf("Root of %d sums: %x", len(n), got)
			}
		}
	}
}

// P10.1: each sum counts in the root, and the order of each two.
func TestRootCounts(t *testing.T) {
	for _, l := range sumLists() {
		was := Root(l)
		for i := range l {
			for _, x := range []uint64{1, 1 << 31, 1 << 32, 1 << 63, math.MaxUint64} {
				o := slices.Clone(l)
				o[i] ^= x
				if Root(o) == was {
					t.Fatalf("%x: sum %d doesn't count", l, i)
				}
			}
			for j := range i {
				o := slices.Clone(l)
				o[i], o[j] = l[j], l[i]
				if (Root(o) == was) != (l[i] == l[j]) {
					t.Fatalf("%x: the order of sums %d and %d", l, j, i)
				}
			}
		}
	}
}

// P10.1: Group and Root leave the list that they were handed, and the spare
// room behind it, and hang on nothing but the list.
func TestGroupAndRootLeaveTheirSums(t *testing.T) {
	for _, whole := range sumLists() {
		for _, l := range append(notWhole(whole), whole) {
			in := roomy(l, 7)
			was := withRoom(in)
			for _, g := range places() {
				if Group(in, g) != groupOf(l, g) {
					t.Fatalf("Group of %d sums, %d, hangs on the spare room", len(l), g)
				}
			}
			if Root(in) != rootOf(l) {
				t.Fatalf("Root of %d sums hangs on the spare room", len(l))
			}
			if !slices.Equal(in[:cap(in)], was) {
				t.Fatalf("%d sums were changed", len(l))
			}
		}
	}
}

// P10.1: Of is the Root of Sums.
func TestOf(t *testing.T) {
	for i, m := range maps() {
		if got := Of(m); got != Root(Sums(m)) || got != rootOf(sumsOf(m)) {
			t.Errorf("map %d: Of: %x", i, got)
		}
		if Of(m) != Of(m.Copy()) {
			t.Errorf("map %d: its copy has another root", i)
		}
	}
}

// P10.1: the root of a new map, by the sums of the single bytes 0 to 7.
func TestOfNew(t *testing.T) {
	var l []uint64
	for p := range byte(pages) {
		l = append(l, sumOf([]byte{p}))
	}
	if got := Of(page.New()); got != rootOf(l) || got == 0 {
		t.Errorf("Of(New()): %x, not %x", got, rootOf(l))
	}
}

// P10.1: a change of one value changes the sum of its page alone, and the root;
// undone, all are as they were.
func TestOfOneValue(t *testing.T) {
	for i, m := range maps() {
		sums, root := Sums(m), Of(m)
		for k := range uint8(keys) {
			was := m.Get(k)
			for _, x := range []uint16{1, 2, 255, 256, 1 << 15, math.MaxUint16} {
				m.Put(k, was^x)
				if Of(m) == root || !slices.Equal(Unlike(Sums(m), sums), []int{int(k) % 7}) {
					t.Fatalf("map %d: key %d from %d to %d", i, k, was, was^x)
				}
				m.Put(k, was)
				if Of(m) != root || !slices.Equal(Sums(m), sums) {
					t.Fatalf("map %d: key %d undone", i, k)
				}
			}
		}
	}
}

// P10.1: a change of one entry changes the last page's sum alone, and the root;
// undone, all are as they were.
func TestOfOneEntry(t *testing.T) {
	for i, m := range maps() {
		sums, root := Sums(m), Of(m)
		for id := uint8(1); id <= clients; id++ {
			ts, result := m.Client(id)
			for _, x := range []uint32{1, 256, 1 << 16, 1 << 31} {
				for _, c := range [][2]uint32{{ts ^ x | 2, result}, {ts ^ x | 2, result ^ x}, {ts | 2, result ^ x}, {0, 0}} {
					if c == [2]uint32{ts, result} {
						continue
					}
					m.SetClient(id, c[0], c[1])
					if Of(m) == root || !slices.Equal(Unlike(Sums(m), sums), []int{7}) {
						t.Fatalf("map %d: client %d from %d, %d to %d", i, id, ts, result, c)
					}
					m.SetClient(id, ts, result)
					if Of(m) != root || !slices.Equal(Sums(m), sums) {
						t.Fatalf("map %d: client %d undone", i, id)
					}
				}
			}
		}
	}
}

// P10.1: what no map holds changes no sum.
func TestOfNothingChanged(t *testing.T) {
	for i, m := range maps() {
		sums, root := Sums(m), Of(m)
		for _, k := range []uint8{keys, keys + 1, 71, 128, 255} {
			m.Put(k, 9)
		}
		for _, id := range []uint8{0, clients + 1, 255} {
			m.SetClient(id, 9, 9)
		}
		if Of(m) != root || !slices.Equal(Sums(m), sums) {
			t.Errorf("map %d: its sums changed", i)
		}
	}
}

// unlikeOf says P10.2 once more.
func unlikeOf(a, b []uint64) []int {
	var out []int
	for p := range pages {
		if len(a) != pages || len(b) != pages || a[p] != b[p] {
			out = append(out, p)
		}
	}
	return out
}

// P10.2: nothing is unlike of a list with itself and with its copy.
func TestUnlikeItself(t *testing.T) {
	for _, l := range sumLists() {
		if got := Unlike(l, l); len(got) != 0 {
			t.Errorf("%x and itself: %v", l, got)
		}
		if got := Unlike(l, slices.Clone(l)); len(got) != 0 {
			t.Errorf("%x and its copy: %v", l, got)
		}
		if got := Unlike(l, roomy(l, 3)); len(got) != 0 {
			t.Errorf("%x and itself with other spare room: %v", l, got)
		}
	}
}

// P10.2: the places at which lists aren't the same, whichever these are.
func TestUnlikeEachSetOfPlaces(t *testing.T) {
	for _, l := range sumLists() {
		for set := range 1 << pages {
			o, want := slices.Clone(l), []int(nil)
			for p := range pages {
				if set>>p&1 == 1 {
					o[p] ^= 1 << (set % 64)
					want = append(want, p)
				}
			}
			if got := Unlike(l, o); !slices.Equal(got, want) {
				t.Fatalf("%x and %x: %v, not %v", l, o, got, want)
			}
			if got := Unlike(o, l); !slices.Equal(got, want) {
				t.Fatalf("%x and %x: %v, not %v", o, l, got, want)
			}
		}
	}
}

// P10.2: lists that differ at one place, by whatever bit.
func TestUnlikeEachBit(t *testing.T) {
	for _, l := range sumLists() {
		for p := range pages {
			for bit := range 64 {
				o := slices.Clone(l)
				o[p] ^= 1 << bit
				if got := Unlike(l, o); !slices.Equal(got, []int{p}) {
					t.Fatalf("place %d, bit %d: %v", p, bit, got)
				}
			}
		}
	}
}

// P10.2: places are held one by one: the same sums at other places are unlike.
func TestUnlikeOtherPlaces(t *testing.T) {
	a := []uint64{1, 2, 3, 4, 5, 6, 7, 8}
	cases := []struct {
		b    []uint64
		want []int
	}{
		{[]uint64{8, 7, 6, 5, 4, 3, 2, 1}, []int{0, 1, 2, 3, 4, 5, 6, 7}},
		{[]uint64{2, 1, 3, 4, 5, 6, 7, 8}, []int{0, 1}},
		{[]uint64{1, 2, 3, 4, 5, 6, 8, 7}, []int{6, 7}},
		{[]uint64{8, 2, 3, 4, 5, 6, 7, 1}, []int{0, 7}},
		{[]uint64{2, 3, 4, 5, 6, 7, 8, 1}, []int{0, 1, 2, 3, 4, 5, 6, 7}},
		{[]uint64{1, 2, 3, 5, 4, 6, 7, 8}, []int{3, 4}},
		{[]uint64{0, 2, 3, 4, 5, 6, 7, 8}, []int{0}},
		{[]uint64{1, 2, 3, 4, 5, 6, 7, 0}, []int{7}},
	}
	for _, c := range cases {
		if got := Unlike(a, c.b); !slices.Equal(got, c.want) {
			t.Errorf("%v: %v, not %v", c.b, got, c.want)
		}
	}
}

// P10.2: all places, rising, if one of the lists, the first, the second or both,
// isn't one sum a page; also if they are the same.
func TestUnlikeNotWhole(t *testing.T) {
	all := []int{0, 1, 2, 3, 4, 5, 6, 7}
	for _, l := range sumLists() {
		for i, n := range notWhole(l) {
			if got := Unlike(n, l); !slices.Equal(got, all) {
				t.Errorf("list %d, %d sums, and a whole one: %v", i, len(n), got)
			}
			if got := Unlike(l, n); !slices.Equal(got, all) {
				t.Errorf("a whole list and list %d, %d sums: %v", i, len(n), got)
			}
			for j, o := range notWhole(l) {
				if got := Unlike(n, o); !slices.Equal(got, all) {
					t.Errorf("lists %d and %d, %d and %d sums: %v", i, j, len(n), len(o), got)
				}
			}
		}
	}
}

// P10.2: no sums at all are no list of all pages, nil and empty alike; nor are
// those of nothing, which a list that is too short doesn't stand for.
func TestUnlikeNone(t *testing.T) {
	all, zeros := []int{0, 1, 2, 3, 4, 5, 6, 7}, make([]uint64, pages)
	for _, none := range [][]uint64{nil, {}, zeros[:0], zeros[:7]} {
		for _, o := range [][]uint64{nil, {}, zeros[:0], zeros[:7], zeros} {
			if got := Unlike(none, o); !slices.Equal(got, all) {
				t.Errorf("%d and %d sums: %v", len(none), len(o), got)
			}
			if got := Unlike(o, none); !slices.Equal(got, all) {
				t.Errorf("%d and %d sums: %v", len(o), len(none), got)
			}
		}
	}
	if got := Unlike(zeros, zeros); len(got) != 0 {
		t.Errorf("sums of 0: %v", got)
	}
}

// P10.2: Unlike leaves what it was handed; who changes what he was told, or what
// he handed over, changes no other answer.
func TestUnlikeIsNew(t *testing.T) {
	r := rand.New(rand.NewSource(13))
	for _, whole := range sumLists() {
		other := slices.Clone(whole)
		for p := range other {
			other[p] += uint64(r.Intn(2))
		}
		for _, a := range append(notWhole(whole), whole, other) {
			for _, b := range [][]uint64{whole, other, whole[:7], nil} {
				x, y, want := roomy(a, 5), roomy(b, 6), unlikeOf(a, b)
				hadX, hadY := withRoom(x), withRoom(y)
				one, two := Unlike(x, y), Unlike(x, y)
				if !slices.Equal(one, want) || !slices.Equal(x[:cap(x)], hadX) || !slices.Equal(y[:cap(y)], hadY) {
					t.Fatalf("%d and %d sums: %v, not %v, or they were changed", len(a), len(b), one, want)
				}
				spoil(one)
				if !slices.Equal(two, want) || !slices.Equal(Unlike(x, y), want) {
					t.Fatalf("%d and %d sums: changed with another answer", len(a), len(b))
				}
				if !slices.Equal(x[:cap(x)], hadX) || !slices.Equal(y[:cap(y)], hadY) {
					t.Fatalf("%d and %d sums: changed with an answer", len(a), len(b))
				}
				spoil(x)
				spoil(y)
				if !slices.Equal(two, want) {
					t.Fatalf("%d and %d sums: an answer was changed with them", len(a), len(b))
				}
			}
		}
	}
}

// family are maps of which many are the same: few things in few values, made in
// unlike ways.
func family(r *rand.Rand) *page.Map {
	m := page.New()
	for range r.Intn(4) {
		m.Put(uint8(r.Intn(keys)), 9)
		m.Put(uint8(r.Intn(8)), uint16(r.Intn(2)))
		m.SetClient(uint8(1+r.Intn(2)), uint32(r.Intn(2)), uint32(r.Intn(2)))
	}
	for k := range uint8(keys) {
		if m.Get(k) == 9 && r.Intn(3) > 0 {
			m.Put(k, 0)
		}
	}
	return m
}

// pagesUnlike tells at which pages two maps' bytes differ.
func pagesUnlike(m, o *page.Map) []int {
	var out []int
	for p := range pages {
		if !bytes.Equal(bytesOf(m, p), bytesOf(o, p)) {
			out = append(out, p)
		}
	}
	return out
}

// agree holds all that sums tell of two maps against their pages.
func agree(t *testing.T, m, o *page.Map, what string) {
	t.Helper()
	unlike, same := pagesUnlike(m, o), m.Same(o)
	if got := Unlike(Sums(m), Sums(o)); !slices.Equal(got, unlike) {
		t.Fatalf("%s: Unlike: %v, not %v", what, got, unlike)
	}
	if slices.Equal(Sums(m), Sums(o)) != same || (Of(m) == Of(o)) != same {
		t.Fatalf("%s: the same: %v; the same sums: %v; the same Of: %v", what, same, slices.Equal(Sums(m), Sums(o)), Of(m) == Of(o))
	}
}

// repaired is m with the pages of o at the places at which their sums are
// unlike.
func repaired(t *testing.T, m, o *page.Map) *page.Map {
	t.Helper()
	out := m.Copy()
	for _, p := range Unlike(Sums(m), Sums(o)) {
		if e := out.Load(p, o.Page(p)); e != api.OK {
			t.Fatalf("page %d: %v", p, e)
		}
	}
	return out
}

// P10.3: who has the same sums has the same pages, and who hasn't hasn't; the
// unlike pages, loaded, make one map the other.
func TestSameSumsSamePages(t *testing.T) {
	r := rand.New(rand.NewSource(14))
	all, alike := maps(), 0
	for range 60 {
		all = append(all, family(r))
	}
	for i, m := range all {
		for j, o := range all {
			what := fmt.Sprintf("maps %d and %d", i, j)
			agree(t, m, o, what)
			agree(t, repaired(t, m, o), o, what+", repaired")
			if !repaired(t, m, o).Same(o) {
				t.Fatalf("%s: repaired, they are unlike", what)
			}
			if i != j && m.Same(o) {
				alike++
			}
		}
	}
	if alike == 0 {
		t.Error("no two of these maps are the same")
	}
}

// P10.3: of all maps drawn no two unlike have one root.
func TestRootsOfMany(t *testing.T) {
	r := rand.New(rand.NewSource(15))
	had := map[uint64]*page.Map{}
	for i := range 20000 {
		m := drawn(r)
		if i%2 == 0 {
			m = family(r)
		}
		if o, ok := had[Of(m)]; ok && !m.Same(o) {
			t.Fatalf("map %d has the root of one unlike it", i)
		}
		had[Of(m)] = m
	}
}

// P10.3: a map whose pages were written over at whatever places is repaired by
// the sums of what it was: just these pages are unlike, and no other is loaded.
func TestRepair(t *testing.T) {
	for i, m := range maps() {
		for set := range 1 << pages {
			wrecked, want := m.Copy(), []int(nil)
			for p := range pages {
				if set>>p&1 == 0 {
					continue
				}
				if p == 7 {
					ts, result := m.Client(3)
					wrecked.SetClient(3, ts|1, result+1)
				} else {
					wrecked.Put(uint8(p+21), m.Get(uint8(p+21))+1)
				}
				want = append(want, p)
			}
			if got := Unlike(Sums(wrecked), Sums(m)); !slices.Equal(got, want) {
				t.Fatalf("map %d: unlike are %v, not %v", i, got, want)
			}
			if again := repaired(t, wrecked, m); !again.Same(m) || Of(again) != Of(m) {
				t.Fatalf("map %d, pages %v: not repaired", i, want)
			}
		}
	}
}
