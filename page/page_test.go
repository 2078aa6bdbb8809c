package page

import (
	"bytes"
	"encoding/binary"
	"fmt"
	"math"
	"math/rand"
	"slices"
	"testing"

	"palisade/api"
)

const (
	keys, clients, pages = 64, 4, 8
	last                 = math.MaxUint32
)

// pair is a client's entry as the tests have it.
type pair struct{ ts, result uint32 }

// book is what a map should hold: the values that aren't 0, the entries.
type book struct {
	values  map[uint8]uint16
	entries map[uint8]pair
}

func newBook() book { return book{values: map[uint8]uint16{}, entries: map[uint8]pair{}} }

// put says P9.1 of Put once more.
func (b book) put(key uint8, val uint16) {
	delete(b.values, key)
	if key < keys && val != 0 {
		b.values[key] = val
	}
}

// set says P9.1 of SetClient once more.
func (b book) set(id uint8, ts, result uint32) {
	delete(b.entries, id)
	if id >= 1 && id <= clients && ts != 0 {
		b.entries[id] = pair{ts, result}
	}
}

// page says P9.2 of Page once more.
func (b book) page(p int) []byte {
	var out []byte
	for k := range uint8(keys) {
		if v, ok := b.values[k]; ok && int(k)%7 == p {
			out = binary.BigEndian.AppendUint16(append(out, k), v)
		}
	}
	for id := uint8(1); id <= clients && p == 7; id++ {
		if e, ok := b.entries[id]; ok {
			out = binary.BigEndian.AppendUint32(append(out, id), e.ts)
			out = binary.BigEndian.AppendUint32(out, e.result)
		}
	}
	return out
}

// take makes page p that of another book.
func (b book) take(p int, from book) {
	for k := range uint8(keys) {
		if int(k)%7 == p {
			b.put(k, from.values[k])
		}
	}
	for id := uint8(1); id <= clients && p == 7; id++ {
		b.set(id, from.entries[id].ts, from.entries[id].result)
	}
}

func (b book) copied() book {
	c := newBook()
	for p := range pages {
		c.take(p, b)
	}
	return c
}

func (b book) same(o book) bool {
	for p := range pages {
		if !bytes.Equal(b.page(p), o.page(p)) {
			return false
		}
	}
	return true
}

// made is a map of what the book holds.
func (b book) made() *Map {
	m := New()
	for k, v := range b.values {
		m.Put(k, v)
	}
	for id, e := range b.entries {
		m.SetClient(id, e.ts, e.result)
	}
	return m
}

// holds holds all that a map tells against the book.
func holds(t *testing.T, m *Map, b book, what string) {
	t.Helper()
	for k := range 256 {
		if got, want := m.Get(uint8(k)), b.values[uint8(k)]; got != want {
			t.Fatalf("%s: Get(%d): %d, not %d", what, k, got, want)
		}
		ts, result := m.Client(uint8(k))
		if want := b.entries[uint8(k)]; ts != want.ts || result != want.result {
			t.Fatalf("%s: Client(%d): %d, %d, not %d, %d", what, k, ts, result, want.ts, want.result)
		}
	}
	for p := -9; p < 20; p++ {
		if got, want := m.Page(p), b.page(p); !bytes.Equal(got, want) {
			t.Fatalf("%s: Page(%d): %x, not %x", what, p, got, want)
		}
	}
}

// filled is a book with a value of each key and an entry of each client, unlike
// from one seed to another.
func filled(seed int) book {
	b := newBook()
	for k := range keys {
		b.put(uint8(k), uint16(k*257+seed*31+1))
	}
	for id := range clients {
		b.set(uint8(id+1), uint32(0x01020304*(id+1)+seed), uint32(0xf1e2d3c4-id-seed))
	}
	return b
}

// some is a book of some keys and clients, values small and great.
func some(r *rand.Rand) book {
	b := newBook()
	for range r.Intn(90) {
		b.put(uint8(r.Intn(keys)), uint16(r.Intn(1<<16)>>r.Intn(17)))
	}
	for range r.Intn(7) {
		b.set(uint8(1+r.Intn(clients)), r.Uint32()>>r.Intn(33), r.Uint32()>>r.Intn(33))
	}
	return b
}

// books are of nothing, of one thing, of some, of all.
func books() []book {
	one, other, key, client := newBook(), newBook(), newBook(), newBook()
	one.put(8, 5)
	other.put(8, 6)
	other.set(1, 1, 0)
	key.put(0, math.MaxUint16)
	key.put(63, 1)
	client.set(2, last, last)
	client.set(4, 1, last)
	out := []book{newBook(), one, other, key, client, filled(0), filled(1)}
	r := rand.New(rand.NewSource(9))
	for range 12 {
		out = append(out, some(r))
	}
	return out
}

func values() []uint16 { return []uint16{0, 1, 2, 255, 256, 257, 0x1234, 32767, 32768, 65534, 65535} }

func numbers() []uint32 {
	return []uint32{0, 1, 2, 255, 256, 65535, 65536, 1<<24 - 1, 1 << 24, 0x01020304, 1<<31 - 1, 1 << 31, last - 1, last}
}

// noPages are numbers of pages that there aren't.
func noPages() []int {
	return []int{
		-1, -2, -7, -8, -9, 8, 9, 14, 15, 16, 64, 255, 256, 257, 263, 1 << 16, 1 << 32, 1<<32 + 7, -1 << 32, -1<<32 + 1,
		math.MaxInt32, math.MinInt32, math.MaxInt, math.MaxInt - 1, math.MinInt, math.MinInt + 1,
	}
}

// P9.1, P9.2: the chapter's limits and errors are those of package api.
func TestLimits(t *testing.T) {
	if api.Keys != keys || api.Clients != clients || api.Pages != pages || api.MaxPage != 64 || api.ErrPage != 90 {
		t.Error("other limits than these tests are written for")
	}
}

// P9.1: a new map has no value, no entry, and each page is empty.
func TestNew(t *testing.T) {
	holds(t, New(), newBook(), "new")
	m := New()
	m.Put(1, 1)
	m.SetClient(1, 1, 1)
	holds(t, New(), newBook(), "new beside another one")
}

// P9.1: a key has the value that was put last, each other one its own.
func TestPut(t *testing.T) {
	for _, start := range []book{newBook(), filled(3)} {
		for k := range 256 {
			m, b := start.made(), start.copied()
			for _, v := range slices.Concat(values(), []uint16{7, 7, 0, 0, 9}) {
				m.Put(uint8(k), v)
				b.put(uint8(k), v)
				holds(t, m, b, fmt.Sprintf("Put(%d, %d)", k, v))
			}
		}
	}
}

// P9.1: values of the keys at the edges, written out.
func TestPutByHand(t *testing.T) {
	m := New()
	for _, k := range []uint8{0, 63, 64, 65, 127, 128, 255} {
		m.Put(k, 65535)
		want := uint16(0)
		if k < 64 {
			want = 65535
		}
		if m.Get(k) != want {
			t.Errorf("Get(%d): %d", k, m.Get(k))
		}
		m.Put(k, 1)
		if m.Get(k) != min(want, 1) {
			t.Errorf("Get(%d) behind Put of 1: %d", k, m.Get(k))
		}
		m.Put(k, 0)
		if m.Get(k) != 0 {
			t.Errorf("Get(%d) behind Put of 0: %d", k, m.Get(k))
		}
	}
	holds(t, m, newBook(), "all taken away")
}

// P9.1: a client has the entry that was set last, each other one its own.
func TestSetClient(t *testing.T) {
	for _, start := range []book{newBook(), filled(4)} {
		for id := range 256 {
			if id > 9 && id%16 > 4 && id < 250 {
				continue
			}
			m, b := start.made(), start.copied()
			for _, ts := range numbers() {
				for _, result := range numbers() {
					m.SetClient(uint8(id), ts, result)
					b.set(uint8(id), ts, result)
				}
				holds(t, m, b, fmt.Sprintf("SetClient(%d, %d, ..)", id, ts))
			}
		}
	}
}

// P9.1: entries of ts and result at the edges, each behind each other one.
func TestSetClientAgain(t *testing.T) {
	edges := []uint32{0, 1, last}
	for _, id := range []uint8{0, 1, 2, 3, 4, 5, 255} {
		for _, ts := range edges {
			for _, result := range edges {
				for _, again := range edges {
					for _, other := range edges {
						m, b := New(), newBook()
						m.SetClient(id, ts, result)
						b.set(id, ts, result)
						holds(t, m, b, "once")
						m.SetClient(id, again, other)
						b.set(id, again, other)
						holds(t, m, b, fmt.Sprintf("client %d: %d, %d, then %d, %d", id, ts, result, again, other))
					}
				}
			}
		}
	}
}

// P9.1: an entry with a ts of 0 is none: no trace of its result is left.
func TestEntryWithoutTs(t *testing.T) {
	for id := range uint8(6) {
		m := New()
		m.SetClient(id, 0, 5)
		if ts, result := m.Client(id); ts != 0 || result != 0 || !m.Same(New()) || len(m.Page(7)) != 0 {
			t.Errorf("client %d: %d, %d", id, ts, result)
		}
		m.SetClient(id, 9, 9)
		m.SetClient(id, 0, last)
		if ts, result := m.Client(id); ts != 0 || result != 0 || !m.Same(New()) || !New().Same(m) || len(m.Page(7)) != 0 {
			t.Errorf("client %d, taken away: %d, %d", id, ts, result)
		}
	}
}

// P9.2: the bytes of pages, written out.
func TestPageByHand(t *testing.T) {
	m := New()
	for _, k := range []uint8{57, 1, 50, 8, 63, 7, 0, 6, 62, 64, 71, 255} {
		m.Put(k, uint16(k)<<8|5)
	}
	m.SetClient(4, 1, last)
	m.SetClient(1, 0x01020304, 0x05060708)
	m.SetClient(3, 0, 4)
	m.SetClient(5, 1, 1)
	for p, want := range []string{
		"\x00\x00\x05\x07\x07\x05\x3f\x3f\x05", "\x01\x01\x05\x08\x08\x05\x32\x32\x05\x39\x39\x05",
		"", "", "", "", "\x06\x06\x05\x3e\x3e\x05",
		"\x01\x01\x02\x03\x04\x05\x06\x07\x08\x04\x00\x00\x00\x01\xff\xff\xff\xff", "",
	} {
		if string(m.Page(p)) != want {
			t.Errorf("Page(%d): %x, not %x", p, m.Page(p), want)
		}
	}
	m = New()
	m.Put(8, 5)
	if string(m.Page(1)) != "\x08\x00\x05" {
		t.Errorf("the chapter's example: %x", m.Page(1))
	}
}

// P9.2: each key lies on one page alone, that of its number modulo 7; an entry
// on page 7 alone.
func TestPageOfEach(t *testing.T) {
	for k := range 256 {
		for _, v := range values() {
			m := New()
			m.Put(uint8(k), v)
			for p := range 12 {
				want := 0
				if k < keys && v != 0 && p < 7 && k%7 == p {
					want = 3
				}
				if b := m.Page(p); len(b) != want || want == 3 && !bytes.Equal(b, []byte{byte(k), byte(v >> 8), byte(v)}) {
					t.Fatalf("key %d, value %d: Page(%d): %x", k, v, p, b)
				}
			}
		}
	}
	for id := range 256 {
		m := New()
		m.SetClient(uint8(id), 6, 7)
		for p := range 12 {
			var want []byte
			if id >= 1 && id <= clients && p == 7 {
				want = []byte{byte(id), 0, 0, 0, 6, 0, 0, 0, 7}
			}
			if !bytes.Equal(m.Page(p), want) {
				t.Fatalf("client %d: Page(%d): %x", id, p, m.Page(p))
			}
		}
	}
}

// P9.2: the pages of books, which are rising and no longer than they may be.
func TestPage(t *testing.T) {
	for i, b := range books() {
		m := b.made()
		holds(t, m, b, fmt.Sprintf("book %d", i))
		for p := range pages {
			step, got := 3, m.Page(p)
			if p == 7 {
				step = 9
			}
			for at := step; at < len(got); at += step {
				if got[at] <= got[at-step] {
					t.Errorf("book %d: Page(%d) isn't rising: %x", i, p, got)
				}
			}
			if len(got)%step != 0 || len(got) > api.MaxPage {
				t.Errorf("book %d: Page(%d): %d bytes", i, p, len(got))
			}
		}
	}
}

// P9.2: of a page that there isn't Page tells nothing, Load ErrPage.
func TestNoPage(t *testing.T) {
	for _, b := range books() {
		m := b.made()
		for _, p := range noPages() {
			if len(m.Page(p)) != 0 {
				t.Errorf("Page(%d): %x", p, m.Page(p))
			}
			for q := range pages {
				if e := m.Load(p, filled(2).page(q)); e != api.ErrPage {
					t.Errorf("Load(%d, ..): %v", p, e)
				}
				if e := m.Load(p, m.Page(q)); e != api.ErrPage {
					t.Errorf("Load(%d, its page %d): %v", p, q, e)
				}
			}
			for _, none := range [][]byte{nil, {}} {
				if e := m.Load(p, none); e != api.ErrPage {
					t.Errorf("Load(%d, none): %v", p, e)
				}
			}
		}
		holds(t, m, b, "behind what was refused")
	}
}

// P9.2: a page becomes what it is loaded with: what it had and that hasn't is
// taken away; the other pages are left.
func TestLoad(t *testing.T) {
	for i, to := range books() {
		for j, from := range books() {
			for p := range pages {
				m, b := to.made(), to.copied()
				if e := m.Load(p, from.page(p)); e != api.OK {
					t.Fatalf("book %d, page %d of book %d: %v", i, p, j, e)
				}
				b.take(p, from)
				holds(t, m, b, fmt.Sprintf("book %d, page %d of book %d", i, p, j))
			}
		}
	}
}

// P9.2: an empty page is one, as a nil list and as an empty one.
func TestLoadNone(t *testing.T) {
	for _, none := range [][]byte{nil, {}, []byte("spare")[:0]} {
		for p := range pages {
			m, b := filled(5).made(), filled(5)
			if e := m.Load(p, none); e != api.OK {
				t.Fatalf("page %d: %v", p, e)
			}
			b.take(p, newBook())
			holds(t, m, b, fmt.Sprintf("page %d of none", p))
		}
	}
}

// refused loads b into maps of several books; each must refuse it, unchanged.
func refused(t *testing.T, p int, b []byte, what string) {
	t.Helper()
	for _, start := range []book{newBook(), filled(6)} {
		m := start.made()
		if e := m.Load(p, b); e != api.ErrPage {
			t.Fatalf("%s: Load(%d, %x): %v", what, p, b, e)
		}
		if !m.Same(start.made()) {
			t.Fatalf("%s: Load(%d, %x): refused, but not unchanged", what, p, b)
		}
		holds(t, m, start, what)
	}
}

// triple is a key and its value, nine a client and its entry, as on a page.
func triple(key uint8, val uint16) []byte {
	return binary.BigEndian.AppendUint16([]byte{key}, val)
}

func nine(id uint8, ts, result uint32) []byte {
	return binary.BigEndian.AppendUint32(binary.BigEndian.AppendUint32([]byte{id}, ts), result)
}

// P9.2: bytes of one key are a page where the key lies, and has a value.
func TestLoadOneKey(t *testing.T) {
	for k := range 256 {
		for _, v := range []uint16{0, 1, 256, 65535} {
			for p := range 7 {
				if k < keys && k%7 == p && v != 0 {
					m, b := New(), newBook()
					if e := m.Load(p, triple(uint8(k), v)); e != api.OK {
						t.Fatalf("key %d, value %d, page %d: %v", k, v, p, e)
					}
					b.put(uint8(k), v)
					holds(t, m, b, "one key")
					continue
				}
				m := filled(6).made()
				if e := m.Load(p, triple(uint8(k), v)); e != api.ErrPage || !m.Same(filled(6).made()) {
					t.Fatalf("key %d, value %d, page %d: %v", k, v, p, e)
				}
			}
		}
		refused(t, 7, triple(uint8(k), 1), "a key on page 7")
	}
}

// P9.2: bytes of two keys are a page where both lie, rising; of each two keys.
func TestLoadTwoKeys(t *testing.T) {
	for i := range 80 {
		for j := range 80 {
			for p := range 7 {
				b := slices.Concat(triple(uint8(i), 3), triple(uint8(j), 4))
				m := New()
				e, want := m.Load(p, b), api.ErrPage
				if i < j && j < keys && i%7 == p && j%7 == p {
					want = api.OK
				}
				if e != want || m.Same(New()) != (want != api.OK) {
					t.Fatalf("keys %d and %d, page %d: %v", i, j, p, e)
				}
			}
		}
	}
}

// P9.2: a client's entry is page 7 where there is such a client, and a ts.
func TestLoadOneClient(t *testing.T) {
	for id := range 256 {
		for _, ts := range []uint32{0, 1, 256, last} {
			for _, result := range []uint32{0, 1, last} {
				b := nine(uint8(id), ts, result)
				if id >= 1 && id <= clients && ts != 0 {
					m, want := New(), newBook()
					if e := m.Load(7, b); e != api.OK {
						t.Fatalf("client %d: %d, %d: %v", id, ts, result, e)
					}
					want.set(uint8(id), ts, result)
					holds(t, m, want, "one client")
				} else {
					refused(t, 7, b, "no client's")
				}
			}
		}
		for p := range 7 {
			m := filled(6).made()
			if e := m.Load(p, nine(uint8(id), 1, 1)); e != api.ErrPage || !m.Same(filled(6).made()) {
				t.Fatalf("client %d on page %d: %v", id, p, e)
			}
		}
	}
}

// P9.2: entries of two clients are page 7 where they are rising.
func TestLoadTwoClients(t *testing.T) {
	for i := range uint8(8) {
		for j := range uint8(8) {
			for _, e := range []pair{{0, 0}, {0, 9}, {5, 0}, {6, last}} {
				for _, f := range []pair{{0, 0}, {0, 9}, {5, 0}, {6, last}} {
					m, b := filled(1).made(), filled(1)
					got := m.Load(7, slices.Concat(nine(i, e.ts, e.result), nine(j, f.ts, f.result)))
					want := api.ErrPage
					if i >= 1 && i < j && j <= clients && e.ts != 0 && f.ts != 0 {
						want = api.OK
						b.take(7, newBook())
						b.set(i, e.ts, e.result)
						b.set(j, f.ts, f.result)
					}
					if got != want {
						t.Fatalf("clients %d, %v and %d, %v: %v", i, e, j, f, got)
					}
					holds(t, m, b, "two clients")
				}
			}
		}
	}
}

// P9.2: a page's bytes on another one are refused, where they aren't empty, and
// aren't by chance those of an entry.
func TestLoadElsewhere(t *testing.T) {
	for i, b := range books() {
		for p := range pages {
			for q := range pages {
				if p != q && len(b.page(p)) > 0 && !isPageOf(q, b.page(p)) {
					refused(t, q, b.page(p), fmt.Sprintf("book %d, page %d", i, p))
				}
			}
		}
	}
}

// P9.2: the same bytes may be three keys of one page, and one client's entry.
func TestLoadEither(t *testing.T) {
	m := New()
	m.Put(1, 0x0008)
	m.Put(8, 0x0304)
	m.Put(15, 0x0506)
	both := []byte("\x01\x00\x08\x08\x03\x04\x0f\x05\x06")
	if !bytes.Equal(m.Page(1), both) {
		t.Fatalf("%x", m.Page(1))
	}
	if e := m.Load(7, both); e != api.OK {
		t.Fatal(e)
	}
	ts, result := m.Client(1)
	if ts != 0x00080803 || result != 0x040f0506 || !bytes.Equal(m.Page(1), both) || !bytes.Equal(m.Page(7), both) {
		t.Errorf("%x, %x", ts, result)
	}
}

// P9.2: a page that is cut off within a part, or has bytes behind it or ahead
// of it that are no part, is refused; cut off between two parts it is a page.
func TestLoadCutOff(t *testing.T) {
	for p := range pages {
		step := 3
		if p == 7 {
			step = 9
		}
		whole := filled(7).page(p)
		for n := range len(whole) {
			if n%step != 0 {
				refused(t, p, whole[:n], "cut off at the end")
				refused(t, p, slices.Clone(whole[:n]), "cut off at the end, copied")
				refused(t, p, whole[n:], "cut off at the front")
				refused(t, p, slices.Concat(whole[:n], whole[n+1:]), "a hole")
				continue
			}
			for _, part := range [][]byte{whole[:n], whole[n:], slices.Concat(whole[:n], whole[n+step:])} {
				m := filled(8).made()
				if e := m.Load(p, part); e != api.OK || !bytes.Equal(m.Page(p), part) {
					t.Fatalf("page %d: %x: %v", p, part, e)
				}
			}
		}
		for c := range 256 {
			refused(t, p, append(slices.Clone(whole), byte(c)), "a byte behind")
			refused(t, p, append([]byte{byte(c)}, whole...), "a byte ahead")
		}
		for n := 1; n <= 2*step; n++ {
			refused(t, p, slices.Concat(whole, make([]byte, n)), "noughts behind")
			refused(t, p, slices.Concat(make([]byte, n), whole), "noughts ahead")
			refused(t, p, slices.Concat(whole, bytes.Repeat([]byte{255}, n)), "all bits behind")
		}
	}
}

// P9.2: parts of a page that fall, or come twice, are refused.
func TestLoadOrder(t *testing.T) {
	for p := range pages {
		step := 3
		if p == 7 {
			step = 9
		}
		parts := slices.Collect(slices.Chunk(filled(9).page(p), step))
		for i := range parts {
			refused(t, p, slices.Concat(parts[i], parts[i]), "one twice")
			for j := range parts {
				twice := slices.Insert(slices.Clone(parts), j, parts[i])
				refused(t, p, slices.Concat(twice...), "one of all twice")
				if i != j {
					turned := slices.Clone(parts)
					turned[i], turned[j] = turned[j], turned[i]
					refused(t, p, slices.Concat(turned...), "two turned round")
				}
			}
		}
		slices.Reverse(parts)
		refused(t, p, slices.Concat(parts...), "falling")
		other := slices.Clone(parts[0])
		other[step-1] ^= 1
		refused(t, p, slices.Concat(parts[0], other), "one twice, otherwise")
	}
}

// P9.2: values of 0 and keys and clients that there aren't are refused among
// good ones too, at each place.
func TestLoadOneBad(t *testing.T) {
	for p := range 7 {
		parts := slices.Collect(slices.Chunk(filled(9).page(p), 3))
		for i := range parts {
			was := parts[i]
			parts[i] = triple(was[0], 0)
			refused(t, p, slices.Concat(parts...), "a value of 0")
			parts[i] = was
		}
		for k := p + 63; k < 256; k += 7 {
			if k >= keys {
				refused(t, p, slices.Concat(filled(9).page(p), triple(uint8(k), 1)), "a key behind the last")
				refused(t, p, triple(uint8(k), 1), "a key behind the last, alone")
			}
		}
	}
	parts := slices.Collect(slices.Chunk(filled(9).page(7), 9))
	for i := range parts {
		was := parts[i]
		parts[i] = nine(was[0], 0, 1)
		refused(t, 7, slices.Concat(parts...), "a ts of 0")
		parts[i] = nine(was[0], 0, 0)
		refused(t, 7, slices.Concat(parts...), "no entry")
		parts[i] = was
	}
	refused(t, 7, slices.Concat(slices.Concat(parts...), nine(5, 1, 1)), "a client behind the last")
	refused(t, 7, slices.Concat(nine(0, 1, 1), slices.Concat(parts...)), "a client ahead of the first")
}

// P9.2: bytes as many as a page has at most, and more, are none of any page.
func TestLoadLong(t *testing.T) {
	for _, n := range []int{36, 37, 45, 62, 63, 64, 65, 66, 72, 128, 255, 256, 3 * 256, 65535, 65536, 65536 + 3, 1 << 24} {
		for p := range pages {
			for _, b := range [][]byte{
				make([]byte, n), bytes.Repeat([]byte{1}, n), bytes.Repeat([]byte{255}, n),
				bytes.Repeat(triple(uint8(p), 1), n/3+1)[:n],
			} {
				m := filled(2).made()
				if e := m.Load(p, b); e != api.ErrPage || !m.Same(filled(2).made()) {
					t.Fatalf("page %d: %d bytes: %v", p, n, e)
				}
			}
			m, whole := filled(2).made(), filled(3).page(p)
			if n >= len(whole) {
				long := append(slices.Clone(whole), make([]byte, n+1-len(whole))...)
				if e := m.Load(p, long); e != api.ErrPage || !m.Same(filled(2).made()) {
					t.Fatalf("page %d and more, %d bytes: %v", p, n, e)
				}
			}
		}
	}
}

// isPageOf says once more, by the chapter's words, what is a Page(p).
func isPageOf(p int, b []byte) bool {
	step, before := 3, -1
	if p == 7 {
		step = 9
	}
	if len(b)%step != 0 {
		return false
	}
	for part := range slices.Chunk(b, step) {
		k := int(part[0])
		if k <= before {
			return false
		}
		before = k
		if p == 7 && (k < 1 || k > clients || binary.BigEndian.Uint32(part[1:]) == 0) {
			return false
		}
		if p < 7 && (k >= keys || k%7 != p || binary.BigEndian.Uint16(part[1:]) == 0) {
			return false
		}
	}
	return true
}

// P9.2: bytes of a page that are turned, moved or taken away somewhere are held
// against the chapter's words.
func TestLoadTurned(t *testing.T) {
	r := rand.New(rand.NewSource(10))
	good := 0
	for range 60000 {
		p := r.Intn(pages)
		start, b := some(r), some(r).page(p)
		for range 1 + r.Intn(2) {
			b = turned(r, b)
		}
		m, want := start.made(), api.ErrPage
		if isPageOf(p, b) {
			want = api.OK
			good++
		}
		if e := m.Load(p, b); e != want {
			t.Fatalf("Load(%d, %x): %v", p, b, e)
		}
		for q := range pages {
			was := start.page(q)
			if q == p && want == api.OK {
				was = b
			}
			if !bytes.Equal(m.Page(q), was) {
				t.Fatalf("Load(%d, %x): page %d: %x, not %x", p, b, q, m.Page(q), was)
			}
		}
	}
	if good < 1000 || good > 59000 {
		t.Errorf("%d good ones: these tests try too few of one sort", good)
	}
}

// turned is b with one fault, or none that tells.
func turned(r *rand.Rand, b []byte) []byte {
	b = slices.Clone(b)
	i := r.Intn(len(b) + 1)
	switch r.Intn(5) {
	case 0:
		return b[:i]
	case 1:
		return slices.Insert(b, i, byte(r.Intn(256)>>r.Intn(9)))
	case 2:
		return append(b, b[:i]...)
	case 3:
		return slices.Delete(b, i/3*3, min(i/3*3+3, len(b)))
	}
	if i < len(b) {
		b[i] = byte(r.Intn(256) >> r.Intn(9))
	}
	return b
}

// P9.2: a copy has the same pages, and is another map: a change of either
// leaves the other one.
func TestCopy(t *testing.T) {
	for i, b := range books() {
		m := b.made()
		c := m.Copy()
		holds(t, c, b, fmt.Sprintf("a copy of book %d", i))
		if !c.Same(m) || !m.Same(c) {
			t.Errorf("book %d isn't the same as its copy", i)
		}
		for p := range pages {
			if e := c.Load(p, filled(20).page(p)); e != api.OK {
				t.Fatal(e)
			}
		}
		holds(t, m, b, "the copy was changed")
		holds(t, c, filled(20), "the copy")
		again := m.Copy()
		m.Put(9, m.Get(9)+1)
		m.SetClient(2, 77, 78)
		holds(t, again, b, "the first one was changed")
		holds(t, c, filled(20), "an elder copy")
	}
}

// P9.2: Same both ways, of each two books, and of a map with itself.
func TestSame(t *testing.T) {
	for i, b := range books() {
		m := b.made()
		if !m.Same(m) || !m.Same(b.made()) || !m.Same(m.Copy()) {
			t.Errorf("book %d isn't the same as itself", i)
		}
		for j, c := range books() {
			if got := m.Same(c.made()); got != b.same(c) || got != c.made().Same(m) {
				t.Errorf("book %d and book %d: %v", i, j, got)
			}
		}
		holds(t, m, b, "asked")
	}
}

// P9.2: maps that differ in one value, one entry, one ts or one result aren't
// the same; put back they are.
func TestSameOneUnlike(t *testing.T) {
	for _, b := range []book{newBook(), filled(11)} {
		m, o := b.made(), b.made()
		unlike := func(what string) {
			t.Helper()
			if m.Same(o) || o.Same(m) {
				t.Fatalf("%s: the same", what)
			}
		}
		for k := range uint8(keys) {
			for bit := range 16 {
				o.Put(k, b.values[k]^1<<bit)
				unlike(fmt.Sprintf("key %d, bit %d", k, bit))
			}
			o.Put(k, b.values[k])
		}
		for id := uint8(1); id <= clients; id++ {
			for bit := range 32 {
				e := b.entries[id]
				o.SetClient(id, e.ts^1<<bit, e.result)
				unlike(fmt.Sprintf("client %d, ts, bit %d", id, bit))
				if o.SetClient(id, e.ts, e.result^1<<bit); e.ts != 0 {
					unlike(fmt.Sprintf("client %d, result, bit %d", id, bit))
				} else if !m.Same(o) {
					t.Fatalf("client %d: a result without a ts tells them apart", id)
				}
			}
			o.SetClient(id, b.entries[id].ts, b.entries[id].result)
		}
		if !m.Same(o) || !o.Same(m) {
			t.Fatal("put back, but not the same")
		}
	}
}

// P9.2: how a map came to be what it is isn't told: the same pages are the same.
func TestSameOtherWay(t *testing.T) {
	m := New()
	for k := 255; k >= 0; k-- {
		m.Put(uint8(k), 9)
		m.SetClient(uint8(k), 8, uint32(k))
	}
	for k := range 256 {
		m.Put(uint8(k), 0)
		m.SetClient(uint8(k), 0, 3)
	}
	if !m.Same(New()) || !New().Same(m) {
		t.Error("all taken away, but not as new")
	}
	m.Load(1, triple(8, 5))
	m.Load(7, nine(1, 2, 3))
	o := New()
	o.SetClient(1, 2, 3)
	o.Put(8, 5)
	if !m.Same(o) || !o.Same(m) {
		t.Error("loaded, but not as put")
	}
}

// spoil changes bytes, and those in the spare room behind them.
func spoil(b []byte) {
	b = b[:cap(b)]
	for i := range b {
		b[i] ^= 0xa5
	}
}

// roomy is b at the front of a longer list that is filled.
func roomy(b []byte) []byte {
	return slices.Concat(b, []byte("what stands behind it"))[:len(b)]
}

// P9.2: what Page tells and what Load was handed are copies: bytes that are
// changed later change no map and no other page.
func TestPageAndLoadAreCopies(t *testing.T) {
	for i, b := range books() {
		m, o := b.made(), New()
		for p := range pages {
			one, other := m.Page(p), m.Page(p)
			spoil(one)
			if !bytes.Equal(other, b.page(p)) {
				t.Fatalf("book %d: page %d was changed with another answer", i, p)
			}
			in := roomy(b.page(p))
			if e := o.Load(p, in); e != api.OK {
				t.Fatal(e)
			}
			spoil(in)
			spoil(o.Page(p))
		}
		holds(t, m, b, "behind changed answers")
		holds(t, o, b, "behind changed bytes")
		kept := m.Page(0)
		m.Put(0, m.Get(0)+1)
		if !bytes.Equal(kept, b.page(0)) {
			t.Fatalf("book %d: an answer was changed with the map", i)
		}
	}
}

// P9.2: what Load is handed is left as it was, its spare room too, also by what
// is done with the map behind it; be it a page or not.
func TestHandedInIsLeft(t *testing.T) {
	for _, b := range books() {
		for p := range pages {
			for _, in := range [][]byte{roomy(b.page(p)), roomy(append(b.page(p), 1)), roomy(nil)} {
				was := string(in[:cap(in)])
				m := filled(12).made()
				m.Load(p, in)
				m.Load(p-1, in)
				m.Load(pages, in)
				spoil(m.Page(p))
				m.Put(uint8(p), 999)
				m.SetClient(3, 9, 9)
				m.Load(p, nil)
				if string(in[:cap(in)]) != was {
					t.Fatalf("page %d: what was handed in was changed: %x", p, in[:cap(in)])
				}
			}
		}
	}
}

// P9.2: a map's own page loaded again changes nothing.
func TestLoadItsOwn(t *testing.T) {
	for i, b := range books() {
		m := b.made()
		for p := range pages {
			if e := m.Load(p, m.Page(p)); e != api.OK {
				t.Fatalf("book %d, page %d: %v", i, p, e)
			}
			holds(t, m, b, "its own page")
		}
	}
}

// P9.3: a map's pages, loaded into another one, whatever that had, in whatever
// order, make the same map.
func TestMapIsItsPages(t *testing.T) {
	r := rand.New(rand.NewSource(11))
	for i, b := range books() {
		for j, had := range books() {
			m, o := b.made(), had.made()
			for _, p := range r.Perm(pages) {
				if e := o.Load(p, m.Page(p)); e != api.OK {
					t.Fatalf("book %d, page %d: %v", i, p, e)
				}
			}
			if !o.Same(m) || !m.Same(o) {
				t.Fatalf("book %d into book %d: not the same", i, j)
			}
			holds(t, o, b, fmt.Sprintf("book %d into book %d", i, j))
			holds(t, m, b, "where the pages are from")
		}
	}
}

// P9.1, P9.2, P9.3: maps that are changed, copied and loaded in many ways tell
// what the chapter says.
func TestAsTheBookSays(t *testing.T) {
	r := rand.New(rand.NewSource(12))
	maps, bs := []*Map{New(), New()}, []book{newBook(), newBook()}
	for step := range 12000 {
		i, j := r.Intn(len(maps)), r.Intn(len(maps))
		m, b := maps[i], bs[i]
		switch r.Intn(7) {
		case 0, 1:
			k, v := uint8(r.Intn(256)>>r.Intn(3)), uint16(r.Intn(1<<16)>>r.Intn(17))
			m.Put(k, v)
			b.put(k, v)
		case 2:
			id, ts, result := uint8(r.Intn(7)), r.Uint32()>>r.Intn(33), r.Uint32()>>r.Intn(33)
			m.SetClient(id, ts, result)
			b.set(id, ts, result)
		case 3:
			p := r.Intn(pages)
			if e := m.Load(p, maps[j].Page(p)); e != api.OK {
				t.Fatalf("step %d: %v", step, e)
			}
			b.take(p, bs[j].copied())
		case 4:
			bad := turned(r, maps[j].Page(r.Intn(pages)))
			if p := r.Intn(pages+2) - 1; p < 0 || p >= pages || !isPageOf(p, bad) {
				if e := m.Load(p, bad); e != api.ErrPage {
					t.Fatalf("step %d: Load(%d, %x): %v", step, p, bad, e)
				}
			}
		case 5:
			maps[j], bs[j] = m.Copy(), b.copied()
		case 6:
			if m.Same(maps[j]) != b.same(bs[j]) {
				t.Fatalf("step %d: Same: %v", step, m.Same(maps[j]))
			}
		}
		if step%17 == 0 {
			holds(t, maps[0], bs[0], fmt.Sprintf("step %d", step))
			holds(t, maps[1], bs[1], fmt.Sprintf("step %d", step))
		}
	}
}
