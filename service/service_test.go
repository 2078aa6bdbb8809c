package service

import (
	"fmt"
	"math"
	"math/rand"
	"slices"
	"testing"

	"palisade/api"
	"palisade/page"
)

const (
	keys, clients        = 64, 4
	put, get, add        = 1, 2, 3
	last                 = math.MaxUint32
	half                 = 1 << 31
	lastVal       uint16 = math.MaxUint16
)

// pair is a client's entry as the tests have it.
type pair struct{ ts, result uint32 }

// book is what a map should hold: the values that aren't 0, the entries.
type book struct {
	values  map[uint8]uint16
	entries map[uint8]pair
}

func newBook() book { return book{values: map[uint8]uint16{}, entries: map[uint8]pair{}} }

func (b book) put(key uint8, val uint16) book {
	delete(b.values, key)
	if val != 0 {
		b.values[key] = val
	}
	return b
}

func (b book) set(id uint8, ts, result uint32) book {
	delete(b.entries, id)
	if ts != 0 {
		b.entries[id] = pair{ts, result}
	}
	return b
}

func (b book) copied() book {
	c := newBook()
	for k, v := range b.values {
		c.put(k, v)
	}
	for id, e := range b.entries {
		c.set(id, e.ts, e.result)
	}
	return c
}

// made is a map of what the book holds.
func (b book) made() *page.Map {
	m := page.New()
	for k, v := range b.values {
		m.Put(k, v)
	}
	for id, e := range b.entries {
		m.SetClient(id, e.ts, e.result)
	}
	return m
}

// real says what a request is, the null one left out, once more.
func real(r api.Request) bool {
	if r.Client < 1 || r.Client > clients || r.Ts == 0 || r.Op.Key >= keys {
		return false
	}
	switch r.Op.Kind {
	case put, add:
		return true
	case get:
		return r.Op.Val == 0
	}
	return false
}

// fresh says P11.1 of New once more.
func (b book) fresh(r api.Request) bool {
	return real(r) && int64(r.Ts) > int64(b.entries[r.Client].ts)
}

// apply says P11.1 of Apply once more, in numbers that don't go round.
func (b book) apply(r api.Request) (uint32, bool) {
	e := b.entries[r.Client]
	switch {
	case !real(r) || r.Ts < e.ts:
		return 0, false
	case r.Ts == e.ts:
		return e.result, true
	}
	was := int(b.values[r.Op.Key])
	now, result := was, was
	switch r.Op.Kind {
	case put:
		now = int(r.Op.Val)
	case add:
		now = (was + int(r.Op.Val)) % 65536
		result = now
	}
	b.put(r.Op.Key, uint16(now))
	b.set(r.Client, r.Ts, uint32(result))
	return uint32(result), true
}

// play says P11.2 once more.
func play(l []api.Request) (book, []uint32) {
	b, out := newBook(), []uint32(nil)
	for _, r := range l {
		result, ok := b.apply(r)
		if !ok {
			result = 0
		}
		out = append(out, result)
	}
	return b, out
}

// holds holds all that a map tells against the book.
func holds(t *testing.T, m *page.Map, b book, what string) {
	t.Helper()
	for k := range 256 {
		if got, want := m.Get(uint8(k)), b.values[uint8(k)]; got != want {
			t.Fatalf("%s: Get(%d): %d, not %d", what, k, got, want)
		}
		ts, result := m.Client(uint8(k))
		if want := b.entries[uint8(k)]; ts != want.ts || result != want.result {
			t.Fatalf("%s: Client(%d): %d, %d, not %d, %d", what, k, ts, result, want.ts, want.result)
		}
	}
	if !m.Same(b.made()) {
		t.Fatalf("%s: other pages than those of such a map", what)
	}
}

// step holds New, Peek and Apply of one request against the book, which goes on
// with the map.
func step(t *testing.T, m *page.Map, b book, r api.Request, what string) {
	t.Helper()
	was, before := m.Copy(), b.copied()
	if got, want := New(m, r), b.fresh(r); got != want || !m.Same(was) {
		t.Fatalf("%s: New of %v: %v, not %v, or the map was changed", what, r, got, want)
	}
	want, told := b.apply(r)
	for range 2 {
		if got, ok := Peek(m, r); got != want || ok != told {
			t.Fatalf("%s: Peek of %v: %d, %v, not %d, %v", what, r, got, ok, want, told)
		}
		if !m.Same(was) {
			t.Fatalf("%s: Peek of %v changed the map", what, r)
		}
	}
	if got, ok := Apply(m, r); got != want || ok != told {
		t.Fatalf("%s: Apply of %v: %d, %v, not %d, %v", what, r, got, ok, want, told)
	}
	holds(t, m, b, fmt.Sprintf("%s, behind Apply of %v", what, r))
	if !before.fresh(r) && !m.Same(was) {
		t.Fatalf("%s: Apply of %v, which isn't new, changed the map", what, r)
	}
}

// unchanged holds against the map that a request isn't new, and what it is told.
func unchanged(t *testing.T, m *page.Map, r api.Request, result uint32, told bool) {
	t.Helper()
	was := m.Copy()
	if New(m, r) {
		t.Errorf("New of %v", r)
	}
	if got, ok := Peek(m, r); got != result || ok != told || !m.Same(was) {
		t.Errorf("Peek of %v: %d, %v, not %d, %v, or the map was changed", r, got, ok, result, told)
	}
	if got, ok := Apply(m, r); got != result || ok != told || !m.Same(was) {
		t.Errorf("Apply of %v: %d, %v, not %d, %v, or the map was changed", r, got, ok, result, told)
	}
}

func req(client uint8, ts uint32, kind, key uint8, val uint16) api.Request {
	return api.Request{Client: client, Ts: ts, Op: api.Op{Kind: kind, Key: key, Val: val}}
}

// filled is a book with a value of each key and an entry of each client.
func filled() book {
	b := newBook()
	for k := range uint8(keys) {
		b.put(k, uint16(k)*257+1)
	}
	for id := uint8(1); id <= clients; id++ {
		b.set(id, uint32(id)*100, uint32(id)*0x01020304)
	}
	return b
}

// books are of nothing, of some, of all, of clients at the greatest Ts.
func books() []book {
	done := filled()
	for id := uint8(1); id <= clients; id++ {
		done.set(id, last, last-uint32(id))
	}
	some := newBook().put(0, 1).put(63, lastVal).set(1, 1, 0).set(4, half, 5)
	return []book{newBook(), some, filled(), done}
}

func values() []uint16 {
	return []uint16{0, 1, 2, 255, 256, 257, 0x1234, 32767, 32768, 32769, 65534, 65535}
}

func times() []uint32 {
	return []uint32{1, 2, 3, 255, 256, 257, 65535, 65536, 1<<24 + 5, half - 1, half, half + 1, last - 1, last}
}

// noRequests are none: one thing of each is wrong, or more than one.
func noRequests() []api.Request {
	var out []api.Request
	for _, ts := range append(times(), 0) {
		for _, id := range []uint8{0, 5, 6, 10, 11, 14, 15, 127, 128, 129, 132, 254, 255} {
			out = append(out, req(id, ts, put, 3, 9), req(id, ts, get, 3, 0), req(id, ts, add, 3, 9))
		}
		for id := range uint8(6) {
			for _, kind := range []uint8{0, 4, 5, 6, 7, 127, 128, 129, 130, 131, 254, 255} {
				out = append(out, req(id, ts, kind, 3, 0), req(id, ts, kind, 3, 9), req(id, ts, kind, 0, 0))
			}
			for _, key := range []uint8{64, 65, 127, 128, 131, 192, 255} {
				out = append(out, req(id, ts, put, key, 9), req(id, ts, get, key, 0), req(id, ts, add, key, 9))
			}
			for _, val := range values()[1:] {
				out = append(out, req(id, ts, get, 3, val), req(id, ts, get, 0, val))
			}
		}
	}
	for id := range 256 {
		for kind := range uint8(5) {
			out = append(out, req(uint8(id), 0, kind, 3, 0), req(uint8(id), 0, kind, 0, 9))
		}
	}
	isNull := func(r api.Request) bool { return r == api.Request{} }
	return slices.DeleteFunc(out, isNull)
}

// drawn is a row of requests, some of them none, many of them not new.
func drawn(r *rand.Rand, n int) []api.Request {
	var out []api.Request
	for i := range n {
		q := req(uint8(1+r.Intn(clients)), uint32(1+i/3+r.Intn(4)), uint8(1+r.Intn(3)), uint8(r.Intn(5)), values()[r.Intn(12)])
		if q.Op.Kind == get {
			q.Op.Val = 0
		}
		switch r.Intn(12) {
		case 0:
			q = api.Request{}
		case 1:
			q = noRequests()[r.Intn(len(noRequests()))]
		case 2:
			q.Ts = uint32(1 + r.Intn(i+1))
		case 3:
			if i > 0 {
				q = out[r.Intn(i)]
			}
		}
		out = append(out, q)
	}
	return out
}

// rows are rows of requests, many of them drawn.
func rows() [][]api.Request {
	out := [][]api.Request{
		nil,
		{{}},
		{{}, {}, {}},
		{req(1, 1, put, 1, 5)},
		{req(1, last, add, 63, 65535), req(1, last, add, 63, 65535), req(1, last-1, put, 63, 1)},
		{req(5, 1, put, 1, 5), req(0, 1, put, 1, 5), req(1, 0, put, 1, 5)},
		every(),
	}
	r := rand.New(rand.NewSource(11))
	for _, n := range []int{2, 3, 5, 8, 13, 30, 100, 100, 100, 1000} {
		out = append(out, drawn(r, n))
	}
	return out
}

// every is a row with some of each kind of request that there is.
func every() []api.Request {
	return []api.Request{
		req(1, 1, put, 5, 7), {}, req(2, 1, add, 5, 3), req(3, 1, get, 5, 0),
		req(1, 1, put, 5, 7), req(2, 1, put, 5, 99), req(5, 1, put, 5, 1), req(1, 2, get, 5, 1),
		req(1, 3, add, 6, 65535), req(1, 2, put, 6, 8), req(2, 9, add, 6, 1), req(2, 9, add, 6, 1),
		req(4, last, put, 5, 0), req(4, 1, put, 5, 4), req(3, 2, get, 5, 0), req(0, 9, put, 5, 1),
		req(4, last, get, 6, 0), req(1, 4, 4, 5, 1), req(1, 5, put, 64, 1), req(3, 3, put, 0, 1),
	}
}

// everyResults are the results of these, written out.
func everyResults() []uint32 {
	return []uint32{0, 0, 10, 10, 0, 10, 0, 0, 65535, 0, 0, 0, 10, 0, 0, 0, 10, 0, 0, 0}
}

// P11.1, P11.2: the limits and kinds are those that these tests are written for.
func TestLimits(t *testing.T) {
	if api.Keys != keys || api.Clients != clients || api.OpPut != put || api.OpGet != get || api.OpAdd != add {
		t.Error("other limits or kinds than these tests are written for")
	}
}

// P11.1: what is no request isn't new, is told nothing, and changes nothing.
func TestNoRequest(t *testing.T) {
	for _, b := range books() {
		m := b.made()
		for _, r := range noRequests() {
			unchanged(t, m, r, 0, false)
		}
		holds(t, m, b, "behind what is no request")
	}
}

// P11.1: what is no request is told nothing at its client's Ts either, where a
// request would be told the result.
func TestNoRequestAtTs(t *testing.T) {
	for _, ts := range times() {
		m := page.New()
		for id := uint8(1); id <= clients; id++ {
			m.SetClient(id, ts, 77)
			unchanged(t, m, req(id, ts, put, 63, 9), 77, true)
			unchanged(t, m, req(id, ts, 0, 0, 0), 0, false)
			unchanged(t, m, req(id, ts, 4, 3, 9), 0, false)
			unchanged(t, m, req(id, ts, 255, 3, 9), 0, false)
			unchanged(t, m, req(id, ts, put, 64, 9), 0, false)
			unchanged(t, m, req(id, ts, get, 255, 0), 0, false)
			unchanged(t, m, req(id, ts, get, 3, 1), 0, false)
		}
	}
}

// P11.1: the null request isn't new, is told nothing, and changes nothing; nor
// does one that is null but for one thing.
func TestNull(t *testing.T) {
	for _, b := range books() {
		m := b.made()
		unchanged(t, m, api.Request{}, 0, false)
		for _, ts := range times() {
			unchanged(t, m, api.Request{Ts: ts}, 0, false)
		}
		for n := 1; n < 256; n++ {
			unchanged(t, m, api.Request{Client: uint8(n)}, 0, false)
			unchanged(t, m, req(0, 0, uint8(n), 0, 0), 0, false)
			unchanged(t, m, req(0, 0, 0, uint8(n), 0), 0, false)
			unchanged(t, m, req(0, 0, 0, 0, uint16(n)), 0, false)
		}
		holds(t, m, b, "behind null requests")
	}
}

// P11.1: a request is new just if its Ts is above its client's, whatever the
// others' are.
func TestNew(t *testing.T) {
	for _, had := range append(times(), 0) {
		for _, ts := range times() {
			for id := uint8(1); id <= clients; id++ {
				for _, others := range []uint32{0, 1, last} {
					m := page.New()
					for o := uint8(1); o <= clients; o++ {
						m.SetClient(o, others, 3)
					}
					m.SetClient(id, had, 3)
					was := m.Copy()
					for _, r := range []api.Request{req(id, ts, put, 63, 65535), req(id, ts, get, 0, 0), req(id, ts, add, 7, 0)} {
						if New(m, r) != (ts > had) || !m.Same(was) {
							t.Fatalf("New of %v where the last Ts is %d: %v", r, had, New(m, r))
						}
					}
				}
			}
		}
	}
}

// P11.1: New by its Ts, written out.
func TestNewByHand(t *testing.T) {
	m := page.New()
	m.SetClient(2, 10, 0)
	m.SetClient(3, last, 0)
	m.SetClient(4, last-1, 0)
	for _, c := range []struct {
		r    api.Request
		want bool
	}{
		{req(1, 1, get, 0, 0), true}, {req(1, last, get, 0, 0), true}, {req(1, 0, get, 0, 0), false},
		{req(2, 9, get, 0, 0), false}, {req(2, 10, get, 0, 0), false}, {req(2, 11, get, 0, 0), true},
		{req(2, half+10, get, 0, 0), true}, {req(2, last, get, 0, 0), true}, {req(2, 1, get, 0, 0), false},
		{req(3, last, get, 0, 0), false}, {req(3, last-1, get, 0, 0), false}, {req(3, 1, get, 0, 0), false},
		{req(4, last, get, 0, 0), true}, {req(4, last-1, get, 0, 0), false},
	} {
		if New(m, c.r) != c.want {
			t.Errorf("New of %v: %v", c.r, !c.want)
		}
	}
}

// P11.1: what a request does and tells, written out.
func TestApplyByHand(t *testing.T) {
	for _, c := range []struct {
		was    uint16
		op     api.Op
		now    uint16
		result uint32
	}{
		{0, api.Op{Kind: put, Val: 5}, 5, 0}, {5, api.Op{Kind: put, Val: 6}, 6, 5}, {5, api.Op{Kind: put, Val: 5}, 5, 5},
		{5, api.Op{Kind: put}, 0, 5}, {0, api.Op{Kind: put}, 0, 0}, {65535, api.Op{Kind: put, Val: 1}, 1, 65535},
		{0, api.Op{Kind: get}, 0, 0}, {5, api.Op{Kind: get}, 5, 5}, {65535, api.Op{Kind: get}, 65535, 65535},
		{0, api.Op{Kind: add, Val: 5}, 5, 5}, {5, api.Op{Kind: add, Val: 6}, 11, 11}, {5, api.Op{Kind: add}, 5, 5},
		{0, api.Op{Kind: add}, 0, 0}, {255, api.Op{Kind: add, Val: 1}, 256, 256}, {32767, api.Op{Kind: add, Val: 1}, 32768, 32768},
		{65535, api.Op{Kind: add, Val: 1}, 0, 0}, {1, api.Op{Kind: add, Val: 65535}, 0, 0}, {65535, api.Op{Kind: add, Val: 2}, 1, 1},
		{32768, api.Op{Kind: add, Val: 32768}, 0, 0}, {65534, api.Op{Kind: add, Val: 1}, 65535, 65535},
		{65535, api.Op{Kind: add, Val: 65535}, 65534, 65534}, {0, api.Op{Kind: add, Val: 65535}, 65535, 65535},
	} {
		for _, key := range []uint8{0, 1, 6, 7, 32, 62, 63} {
			r := api.Request{Client: 3, Ts: 9, Op: c.op}
			r.Op.Key = key
			m, b := newBook().put(key, c.was).made(), newBook().put(key, c.now).set(3, 9, c.result)
			if got, ok := Peek(m, r); got != c.result || !ok || m.Get(key) != c.was {
				t.Errorf("Peek of %v on %d: %d, %v", r, c.was, got, ok)
			}
			if got, ok := Apply(m, r); got != c.result || !ok {
				t.Errorf("Apply of %v on %d: %d, %v", r, c.was, got, ok)
			}
			holds(t, m, b, fmt.Sprintf("Apply of %v on %d", r, c.was))
		}
	}
}

// P11.1: values go round at 2^16, also by 65535 twice, and no carry stays.
func TestAddGoesRound(t *testing.T) {
	m := page.New()
	for i, c := range []struct {
		val    uint16
		result uint32
	}{{65535, 65535}, {1, 0}, {2, 2}, {65535, 1}, {65535, 0}, {65535, 65535}, {65535, 65534}, {32768, 32766}, {32768, 65534}, {3, 1}} {
		got, ok := Apply(m, req(1, uint32(i+1), add, 9, c.val))
		if ts, result := m.Client(1); got != c.result || !ok || uint32(m.Get(9)) != c.result || ts != uint32(i+1) || result != c.result {
			t.Errorf("row %d: %d, %v, value %d, entry %d, %d", i, got, ok, m.Get(9), ts, result)
		}
	}
}

// P11.1: of each kind, each value on each other one: what it tells, and the
// whole map behind it.
func TestApplyOfEach(t *testing.T) {
	for _, was := range values() {
		for _, val := range values() {
			for kind := uint8(put); kind <= add; kind++ {
				for _, start := range books()[:3] {
					b, r := start.copied().put(20, was), req(2, 1<<20, kind, 20, val)
					if kind == get {
						r.Op.Val = 0
					}
					step(t, b.made(), b, r, fmt.Sprintf("on %d", was))
				}
			}
		}
	}
}

// P11.1: each key has its own value, and each client its own entry.
func TestApplyToOneAlone(t *testing.T) {
	for _, start := range books()[:3] {
		for k := range uint8(keys) {
			for id := uint8(1); id <= clients; id++ {
				b := start.copied()
				m := b.made()
				for i, kind := range []uint8{put, add, get, add, put} {
					val := uint16(300 * (i + 1))
					if kind == get {
						val = 0
					}
					step(t, m, b, req(id, half+uint32(i)+1, kind, k, val), "one key, one client")
				}
			}
		}
	}
}

// P11.1: the entry is the request's Ts, also the greatest, be it one above the
// last one or far above it.
func TestApplyAtTs(t *testing.T) {
	for _, had := range append(times(), 0) {
		for _, ts := range times() {
			for id := uint8(1); id <= clients; id++ {
				b := filled().set(id, had, 5)
				m := b.made()
				step(t, m, b, req(id, ts, add, 3, 9), fmt.Sprintf("the last Ts is %d", had))
				step(t, m, b, req(id, last, put, 3, 4), fmt.Sprintf("the last Ts was %d", had))
				step(t, m, b, req(id, ts, add, 3, 9), "elder, or the last")
			}
		}
	}
}

// P11.1: the same request again is told its result and not done again, also
// when others have changed the value in between.
func TestAgain(t *testing.T) {
	for _, c := range []struct {
		op     api.Op
		result uint32
	}{
		{api.Op{Kind: put, Key: 8, Val: 6}, 40}, {api.Op{Kind: put, Key: 8}, 40}, {api.Op{Kind: get, Key: 8}, 40},
		{api.Op{Kind: add, Key: 8, Val: 3}, 43}, {api.Op{Kind: add, Key: 8, Val: 65535}, 39}, {api.Op{Kind: add, Key: 8}, 40},
	} {
		for _, ts := range times() {
			m := page.New()
			m.Put(8, 40)
			r := api.Request{Client: 1, Ts: ts, Op: c.op}
			if got, ok := Apply(m, r); got != c.result || !ok {
				t.Fatalf("Apply of %v: %d, %v", r, got, ok)
			}
			for range 3 {
				unchanged(t, m, r, c.result, true)
			}
			Apply(m, req(2, 1, put, 8, 1000))
			unchanged(t, m, r, c.result, true)
			Apply(m, req(3, 1, add, 8, 1))
			unchanged(t, m, r, c.result, true)
			if m.Get(8) != 1001 {
				t.Fatalf("%v: the value is %d", r, m.Get(8))
			}
		}
	}
}

// P11.1: another request of a client at the same Ts is told the result that
// stands in its entry, whatever it asks for, and isn't done.
func TestOtherAtSameTs(t *testing.T) {
	for id := uint8(1); id <= clients; id++ {
		for _, result := range []uint32{0, 1, 65535, 65536, half, last} {
			b := filled().set(id, 50, result)
			m := b.made()
			for _, k := range []uint8{0, 3, 8, 63} {
				for _, val := range values() {
					unchanged(t, m, req(id, 50, put, k, val), result, true)
					unchanged(t, m, req(id, 50, add, k, val), result, true)
				}
				unchanged(t, m, req(id, 50, get, k, 0), result, true)
			}
			holds(t, m, b, "behind others at the same Ts")
		}
	}
}

// P11.1: an elder request is told nothing and isn't done, be it the one that
// was done then or another one.
func TestElder(t *testing.T) {
	for id := uint8(1); id <= clients; id++ {
		m, b := page.New(), newBook()
		done := []api.Request{req(id, 1, put, 3, 9), req(id, 7, add, 3, 1), req(id, half, add, 3, 1), req(id, last, add, 4, 1)}
		for i, r := range done {
			step(t, m, b, r, "in order")
			for _, elder := range done[:i] {
				unchanged(t, m, elder, 0, false)
			}
			for _, ts := range []uint32{1, 2, r.Ts / 2, r.Ts - 1} {
				if ts == 0 || ts >= r.Ts {
					continue
				}
				unchanged(t, m, req(id, ts, put, 3, 5), 0, false)
				unchanged(t, m, req(id, ts, get, 3, 0), 0, false)
				unchanged(t, m, req(id, ts, add, 60, 5), 0, false)
			}
		}
		holds(t, m, b, "behind elder ones")
	}
}

// P11.1: clients take turns: the Ts of one says nothing of another one's.
func TestClientsApart(t *testing.T) {
	m, b := page.New(), newBook()
	for i, ts := range []uint32{last, half, 5, 1, 6, 1, last, half + 1} {
		id := uint8(1 + i%clients)
		step(t, m, b, req(id, ts, add, 1, uint16(i+1)), "in turns")
		step(t, m, b, req(id, ts, add, 1, uint16(i+1)), "in turns, again")
	}
	for id := uint8(1); id <= clients; id++ {
		if ts, result := m.Client(id); (pair{ts, result}) != []pair{{last, 1}, {half, 3}, {last, 17}, {half + 1, 25}}[id-1] {
			t.Errorf("client %d: %d, %d", id, ts, result)
		}
	}
}

// P11.1: long rows of requests of all kinds, step by step; what is told hangs on
// the map alone, so that another one beside it tells the same.
func TestApplyRows(t *testing.T) {
	for i, row := range rows() {
		for _, b := range books() {
			m, beside := b.made(), b.made()
			for at, r := range row {
				step(t, m, b, r, fmt.Sprintf("row %d at %d", i, at))
				Apply(beside, r)
			}
			if !m.Same(beside) {
				t.Fatalf("row %d: another map beside it went another way", i)
			}
		}
	}
}

// P11.1: what Apply does to a map isn't to be seen in a copy of it.
func TestApplyBesideCopy(t *testing.T) {
	m := filled().made()
	other := m.Copy()
	Apply(m, req(1, 1000, put, 3, 9))
	holds(t, other, filled(), "a copy")
	Apply(other, req(2, 1000, put, 3, 8))
	holds(t, m, filled().put(3, 9).set(1, 1000, 3*257+1), "the other one")
}

// P11.2: of no request there is no result, and the map is empty.
func TestPlayNone(t *testing.T) {
	for _, l := range [][]api.Request{nil, {}, make([]api.Request, 0, 5), every()[:0]} {
		m, out := Play(l)
		if len(out) != 0 {
			t.Errorf("%v", out)
		}
		holds(t, m, newBook(), "no request")
	}
}

// P11.2: one request alone: its result, 0 where it tells false, and the map.
func TestPlayOne(t *testing.T) {
	for _, r := range append(noRequests(), every()...) {
		m, out := Play([]api.Request{r})
		b, want := play([]api.Request{r})
		if len(want) != 1 || !slices.Equal(out, want) {
			t.Fatalf("%v: %v, not %v", r, out, want)
		}
		holds(t, m, b, "one request")
	}
}

// P11.2: of many, some of each kind among them, written out.
func TestPlayByHand(t *testing.T) {
	m, out := Play(every())
	if !slices.Equal(out, everyResults()) {
		t.Errorf("%v, not %v", out, everyResults())
	}
	b := newBook().put(0, 1).set(1, 3, 65535).set(2, 9, 0).set(3, 3, 0).set(4, last, 10)
	holds(t, m, b, "by hand")
}

// P11.2: the results, one for each, and the map; what Apply tells and does one
// by one is the same.
func TestPlay(t *testing.T) {
	for i, row := range rows() {
		what := fmt.Sprintf("row %d", i)
		m, out := Play(row)
		b, want := play(row)
		if !slices.Equal(out, want) || len(out) != len(row) {
			t.Fatalf("%s: %v, not %v", what, out, want)
		}
		holds(t, m, b, what)
		one := page.New()
		for at, r := range row {
			if result, ok := Apply(one, r); result != out[at] || !ok && out[at] != 0 {
				t.Fatalf("%s at %d: Apply: %d, %v, Play: %d", what, at, result, ok, out[at])
			}
		}
		if !one.Same(m) {
			t.Fatalf("%s: another map than by Apply", what)
		}
	}
}

// P11.2: the order counts.
func TestPlayInOrder(t *testing.T) {
	one, two := req(1, 1, put, 5, 7), req(2, 1, add, 5, 3)
	m, out := Play([]api.Request{one, two})
	if !slices.Equal(out, []uint32{0, 10}) || m.Get(5) != 10 {
		t.Errorf("%v, %d", out, m.Get(5))
	}
	m, out = Play([]api.Request{two, one})
	if !slices.Equal(out, []uint32{3, 3}) || m.Get(5) != 7 {
		t.Errorf("turned round: %v, %d", out, m.Get(5))
	}
}

// P11.2: each call begins with a new map, and what it told is touched by
// nothing that is done later, to the list, the results or the maps.
func TestPlayAnew(t *testing.T) {
	for i, row := range rows() {
		l := slices.Concat(row, slices.Repeat([]api.Request{req(3, 77, put, 3, 3)}, 9))[:len(row)]
		whole := slices.Clone(l[:cap(l)])
		b, want := play(row)
		m, out := Play(l)
		if !slices.Equal(l[:cap(l)], whole) {
			t.Fatalf("row %d: the list was changed", i)
		}
		other, results := Play(l)
		holds(t, other, b, "played anew")
		Play(every())
		clear(results[:cap(results)])
		for id := uint8(1); id <= clients; id++ {
			other.SetClient(id, last, 1)
			other.Put(id, 9)
		}
		if !slices.Equal(l[:cap(l)], whole) {
			t.Fatalf("row %d: the list was changed with an answer", i)
		}
		clear(l[:cap(l)])
		if !slices.Equal(out, want) {
			t.Fatalf("row %d: the results were changed: %v, not %v", i, out, want)
		}
		holds(t, m, b, fmt.Sprintf("row %d, later", i))
		if again, results := Play(row); !again.Same(m) || !slices.Equal(results, want) {
			t.Fatalf("row %d: played anew it tells something else", i)
		}
	}
}

// P11.3: a whole row played twice over leaves what it leaves once.
func TestTwiceOver(t *testing.T) {
	for i, row := range rows() {
		b, want := play(row)
		for times := 2; times < 5; times++ {
			m, out := Play(slices.Repeat(row, times))
			holds(t, m, b, fmt.Sprintf("row %d, %d times", i, times))
			if !slices.Equal(out[:len(row)], want) {
				t.Fatalf("row %d, %d times: %v first, not %v", i, times, out[:len(row)], want)
			}
		}
	}
}

// P11.3: each request twice in a row leaves what it leaves once, and both times
// it is told the same.
func TestTwiceInARow(t *testing.T) {
	for i, row := range rows() {
		b, want := play(row)
		var twice []api.Request
		for _, r := range row {
			twice = append(twice, r, r)
		}
		m, out := Play(twice)
		holds(t, m, b, fmt.Sprintf("row %d, each one twice", i))
		for at := range row {
			if out[2*at] != want[at] || out[2*at+1] != want[at] {
				t.Fatalf("row %d at %d: %d and %d, not %d", i, at, out[2*at], out[2*at+1], want[at])
			}
		}
	}
}

// P11.3: elder ones mixed in behind change nothing of what others are told, nor
// of what is left.
func TestElderMixedIn(t *testing.T) {
	r := rand.New(rand.NewSource(12))
	for i, row := range rows() {
		b, want := play(row)
		m, results := page.New(), []uint32(nil)
		for at, q := range row {
			result, _ := Apply(m, q)
			results = append(results, result)
			for range r.Intn(6) {
				Apply(m, row[r.Intn(at+1)])
			}
		}
		if !slices.Equal(results, want) {
			t.Fatalf("row %d: %v, not %v", i, results, want)
		}
		holds(t, m, b, fmt.Sprintf("row %d, elder ones among them", i))
		for _, q := range row {
			Apply(m, q)
		}
		slices.Reverse(row)
		for _, q := range row {
			Apply(m, q)
		}
		holds(t, m, b, fmt.Sprintf("row %d, all of them behind it", i))
	}
}
