package slot

import (
	"fmt"
	"math"
	"math/rand"
	"testing"

	"palisade/api"
)

// far is how far a place has come.
type far int

const (
	none far = iota
	accepted
	prepared
	committed
)

// kind of what a log is told.
type kind int

const (
	accept kind = iota
	prepare
	commit
)

// tell tells a log one thing; of an Accept from is nobody.
func tell(l *Log, k kind, from uint8, view, seq uint32, r api.Request) api.Errno {
	switch k {
	case accept:
		return l.Accept(view, seq, r)
	case prepare:
		return l.Prepare(from, view, seq, r)
	}
	return l.Commit(from, view, seq, r)
}

// must tells a log what it is to take.
func must(t *testing.T, l *Log, k kind, from uint8, view, seq uint32, r api.Request) {
	t.Helper()
	if e := tell(l, k, from, view, seq, r); e != api.OK {
		t.Fatalf("call %d of %d in view %d at %d of %v: %v", k, from, view, seq, r, e)
	}
}

// refuse tells a log what it is not to take.
func refuse(t *testing.T, l *Log, k kind, from uint8, view, seq uint32, r api.Request, want api.Errno) {
	t.Helper()
	if e := tell(l, k, from, view, seq, r); e != want {
		t.Errorf("call %d of %d in view %d at %d of %v: %v, not %v", k, from, view, seq, r, e, want)
	}
}

// wantAt holds what a log tells of a place against how far that has come, and
// with what.
func wantAt(t *testing.T, l *Log, seq uint32, f far, view uint32, r api.Request, what string) {
	t.Helper()
	calls := []func(uint32) (api.Entry, bool){l.Accepted, l.Prepared, l.Committed}
	for i, call := range calls {
		want, ok := api.Entry{}, far(i) < f
		if ok {
			want = api.Entry{Seq: seq, View: view, Req: r}
		}
		if x, got := call(seq); x != want || got != ok {
			t.Fatalf("%s: call %d at %d: %v, %v; not %v, %v", what, i, seq, x, got, want, ok)
		}
	}
}

func wantNone(t *testing.T, l *Log, seq uint32, what string) {
	t.Helper()
	wantAt(t, l, seq, none, 0, api.Request{}, what)
}

func req(ts uint32) api.Request {
	return api.Request{Client: 4, Ts: ts, Op: api.Op{Kind: api.OpPut, Key: 9, Val: 500}}
}

// unlike are requests of which each has one thing that isn't req(7)'s; and the
// null one, and some that are no requests.
func unlike() []api.Request {
	return []api.Request{
		{Client: 5, Ts: 7, Op: api.Op{Kind: api.OpPut, Key: 9, Val: 500}},
		{Client: 4, Ts: 8, Op: api.Op{Kind: api.OpPut, Key: 9, Val: 500}},
		{Client: 4, Ts: 7 + 1<<16, Op: api.Op{Kind: api.OpPut, Key: 9, Val: 500}},
		{Client: 4, Ts: 7, Op: api.Op{Kind: api.OpAdd, Key: 9, Val: 500}},
		{Client: 4, Ts: 7, Op: api.Op{Kind: api.OpPut, Key: 8, Val: 500}},
		{Client: 4, Ts: 7, Op: api.Op{Kind: api.OpPut, Key: 9, Val: 500 + 256}},
		{},
		{Client: 255, Ts: math.MaxUint32, Op: api.Op{Kind: 255, Key: 255, Val: 65535}},
		{Client: 4, Ts: 0, Op: api.Op{Kind: 77, Key: 64}},
	}
}

// lows are ends of windows: the least, small ones, and those of which low +
// Window is the greatest number, one less, or more than that.
func lows() []uint32 {
	return []uint32{0, 1, 2, 4, 7, 8, 9, 1000, 1 << 30, 1 << 31,
		math.MaxUint32 - 10, math.MaxUint32 - 9, math.MaxUint32 - 8, math.MaxUint32 - 7,
		math.MaxUint32 - 4, math.MaxUint32 - 1, math.MaxUint32}
}

// around are the places about a window, those that a sum going round would
// reach among them, and the ends.
func around(low uint32) []uint32 {
	l := []uint32{0, 1, 8, 1 << 31, math.MaxUint32 - 1, math.MaxUint32}
	for d := range uint32(24) {
		l = append(l, low-12+d)
	}
	return append(l, low+1<<16, low+1<<16+1, low+1<<8+1)
}

// inside tells what In is to.
func inside(low, seq uint32) bool {
	d := int64(seq) - int64(low)
	return d >= 1 && d <= 8
}

// The tests are written for these limits and numbers.
func TestLimits(t *testing.T) {
	if api.Replicas != 4 || api.Quorum != 3 || api.Window != 8 {
		t.Error("other limits")
	}
	if api.ErrWindow != 120 || api.ErrTwice != 121 {
		t.Error("other numbers of errors")
	}
}

// P12.1: the Primary of a view.
func TestPrimary(t *testing.T) {
	for view, want := range []uint8{0, 1, 2, 3, 0, 1, 2, 3, 0} {
		if p := Primary(uint32(view)); p != want {
			t.Errorf("view %d: %d, not %d", view, p, want)
		}
	}
	rows := []struct {
		view uint32
		want uint8
	}{{255, 3}, {256, 0}, {257, 1}, {1 << 20, 0}, {1<<31 + 2, 2}, {math.MaxUint32 - 1, 2}, {math.MaxUint32, 3}}
	for _, x := range rows {
		if p := Primary(x.view); p != x.want {
			t.Errorf("view %d: %d, not %d", x.view, p, x.want)
		}
	}
}

// P12.1: the window's two ends, reckoned exactly.
func TestIn(t *testing.T) {
	for _, low := range lows() {
		l := New(low)
		if l.Low() != low {
			t.Errorf("Low %d, not %d", l.Low(), low)
		}
		for _, seq := range around(low) {
			if l.In(seq) != inside(low, seq) {
				t.Errorf("low %d: In %d: %v", low, seq, l.In(seq))
			}
		}
	}
	rows := []struct {
		low, seq uint32
		want     bool
	}{
		{0, 0, false}, {0, 1, true}, {0, 8, true}, {0, 9, false}, {0, math.MaxUint32, false},
		{3, 0, false}, {3, 3, false}, {3, 4, true}, {3, 11, true}, {3, 12, false}, {3, math.MaxUint32, false},
		{math.MaxUint32 - 8, math.MaxUint32, true}, {math.MaxUint32 - 8, math.MaxUint32 - 8, false},
		{math.MaxUint32 - 8, 0, false}, {math.MaxUint32 - 9, math.MaxUint32, false},
		{math.MaxUint32 - 9, math.MaxUint32 - 1, true}, {math.MaxUint32 - 2, math.MaxUint32, true},
		{math.MaxUint32 - 2, 0, false}, {math.MaxUint32 - 2, 1, false}, {math.MaxUint32 - 2, 5, false},
		{math.MaxUint32, math.MaxUint32, false}, {math.MaxUint32, 0, false}, {math.MaxUint32, 7, false},
	}
	for _, x := range rows {
		if in := New(x.low).In(x.seq); in != x.want {
			t.Errorf("low %d: In %d: %v", x.low, x.seq, in)
		}
	}
}

// P12.1, P12.2: nothing is in a new log, nor in one that is zero.
func TestNew(t *testing.T) {
	for _, low := range lows() {
		l := New(low)
		for _, seq := range around(low) {
			wantNone(t, l, seq, fmt.Sprintf("low %d", low))
		}
	}
	var zero Log
	wantNone(t, &zero, 1, "zero")
	must(t, &zero, accept, 0, 3, 1, req(7))
	wantAt(t, &zero, 1, accepted, 3, req(7), "zero")
	a, b := New(0), New(0)
	must(t, a, accept, 0, 0, 1, req(7))
	wantNone(t, b, 1, "another log")
}

// P12.1: outside the window nothing is taken, whatever it is, and nothing is
// changed: neither there nor at the places inside.
func TestOutside(t *testing.T) {
	for _, low := range lows() {
		l := New(low)
		for _, seq := range around(low) {
			if inside(low, seq) {
				continue
			}
			refuse(t, l, accept, 0, 0, seq, req(7), api.ErrWindow)
			refuse(t, l, accept, 0, math.MaxUint32, seq, api.Request{}, api.ErrWindow)
			for from := range 256 {
				refuse(t, l, prepare, uint8(from), 5, seq, req(7), api.ErrWindow)
				refuse(t, l, commit, uint8(from), 5, seq, req(7), api.ErrWindow)
			}
			wantNone(t, l, seq, "refused")
		}
		for d := uint32(1); d <= 8 && low+d > low; d++ {
			wantNone(t, l, low+d, "after what was refused")
			whole(t, l, low+d, 0, req(8))
		}
	}
}

// whole brings a place as far as it comes.
func whole(t *testing.T, l *Log, seq, view uint32, r api.Request) {
	t.Helper()
	must(t, l, accept, 0, view, seq, r)
	for from := range uint8(4) {
		must(t, l, prepare, from, view, seq, r)
		must(t, l, commit, from, view, seq, r)
	}
	wantAt(t, l, seq, committed, view, r, "whole")
}

// P12.1: what may be accepted behind what.
func TestAccept(t *testing.T) {
	a, b := req(7), req(8)
	l := New(4)
	rows := []struct {
		view uint32
		req  api.Request
		want api.Errno
		// What stands behind it.
		in    uint32
		stand api.Request
	}{
		{2, a, api.OK, 2, a},
		{2, a, api.OK, 2, a},
		{2, b, api.ErrTwice, 2, a},
		{2, a, api.OK, 2, a},
		{1, a, api.ErrTwice, 2, a},
		{1, b, api.ErrTwice, 2, a},
		{0, a, api.ErrTwice, 2, a},
		{0, api.Request{}, api.ErrTwice, 2, a},
		{3, a, api.OK, 3, a},
		{2, a, api.ErrTwice, 3, a},
		{4, b, api.OK, 4, b},
		{4, b, api.OK, 4, b},
		{4, a, api.ErrTwice, 4, b},
		{3, a, api.ErrTwice, 4, b},
		{3, b, api.ErrTwice, 4, b},
		{260, a, api.OK, 260, a},
		{5, b, api.ErrTwice, 260, a},
		{1<<16 + 4, b, api.OK, 1<<16 + 4, b},
		{1 << 20, a, api.OK, 1 << 20, a},
		{math.MaxUint32, b, api.OK, math.MaxUint32, b},
		{math.MaxUint32, a, api.ErrTwice, math.MaxUint32, b},
		{math.MaxUint32, b, api.OK, math.MaxUint32, b},
		{0, b, api.ErrTwice, math.MaxUint32, b},
	}
	for i, x := range rows {
		refuse(t, l, accept, 0, x.view, 7, x.req, x.want)
		wantAt(t, l, 7, accepted, x.in, x.stand, fmt.Sprintf("row %d", i))
		wantNone(t, l, 6, "the place ahead")
		wantNone(t, l, 8, "the place behind")
	}
}

// P12.1: requests are unlike by any of their parts; each counts as it is, the
// null one and those that are none among them.
func TestAcceptUnlike(t *testing.T) {
	for _, other := range unlike() {
		for _, x := range [][2]api.Request{{req(7), other}, {other, req(7)}} {
			l := New(0)
			must(t, l, accept, 0, 0, 1, x[0])
			wantAt(t, l, 1, accepted, 0, x[0], "the first")
			refuse(t, l, accept, 0, 0, 1, x[1], api.ErrTwice)
			must(t, l, accept, 0, 0, 1, x[0])
			wantAt(t, l, 1, accepted, 0, x[0], "the first again")
			must(t, l, accept, 0, 1, 1, x[1])
			wantAt(t, l, 1, accepted, 1, x[1], "a greater view")
			refuse(t, l, accept, 0, 0, 1, x[0], api.ErrTwice)
			wantAt(t, l, 1, accepted, 1, x[1], "the elder one")
		}
	}
}

// kinds are those of a replica's words.
func kinds() []kind { return []kind{prepare, commit} }

// stands holds a replica's word of that kind against a request in a view, by
// what comes of the place with two others' words and all the rest. The log is
// spent by it: the view is to be above all that was accepted and said there,
// the replica's own word aside.
func stands(t *testing.T, l *Log, k kind, from uint8, view, seq uint32, r api.Request, want bool, what string) {
	t.Helper()
	must(t, l, accept, 0, view, seq, r)
	helpers, before, behind := 0, accepted, prepared
	if k == commit {
		before, behind = prepared, committed
		for other := range uint8(4) {
			tell(l, prepare, other, view, seq, r)
		}
	}
	most := 1 // beside it
	if k == commit {
		most = 2
	}
	for other := range uint8(4) {
		skip := other == from || k == prepare && other == Primary(view)
		if !skip && helpers < most {
			must(t, l, k, other, view, seq, r)
			helpers++
		}
	}
	f := before
	if want {
		f = behind
	}
	wantAt(t, l, seq, f, view, r, what)
}

// P12.1: what a replica may say behind what, of each replica, of Prepares and
// of Commits.
func TestSay(t *testing.T) {
	a, b := req(7), req(8)
	rows := []struct {
		view uint32
		req  api.Request
		want api.Errno
	}{
		{3, a, api.OK},
		{3, a, api.ErrTwice},
		{3, b, api.ErrTwice},
		{2, a, api.ErrTwice},
		{2, b, api.ErrTwice},
		{0, api.Request{}, api.ErrTwice},
		{4, a, api.OK},
		{3, a, api.ErrTwice},
		{4, a, api.ErrTwice},
		{6, b, api.OK},
		{5, a, api.ErrTwice},
		{6, a, api.ErrTwice},
		{6, b, api.ErrTwice},
		{257, a, api.OK},
		{7, b, api.ErrTwice},
		{1<<16 + 6, b, api.OK},
		{257, b, api.ErrTwice},
		{math.MaxUint32, a, api.OK},
		{math.MaxUint32, a, api.ErrTwice},
		{math.MaxUint32, b, api.ErrTwice},
		{0, a, api.ErrTwice},
	}
	for _, k := range kinds() {
		for from := range uint8(4) {
			l := New(4)
			for _, x := range rows {
				refuse(t, l, k, from, x.view, 7, x.req, x.want)
			}
			wantNone(t, l, 7, "not accepted")
		}
	}
}

// P12.1: the first word at a place counts in view 0 too, that of the null
// request too; behind it view 0 is barred.
func TestSayFirst(t *testing.T) {
	for _, k := range kinds() {
		for from := range uint8(4) {
			for _, r := range append(unlike(), req(7)) {
				l := New(0)
				must(t, l, k, from, 0, 1, r)
				refuse(t, l, k, from, 0, 1, r, api.ErrTwice)
				refuse(t, l, k, from, 0, 1, req(9), api.ErrTwice)
				must(t, l, k, from, 1, 1, r)
				refuse(t, l, k, from, 0, 1, r, api.ErrTwice)
			}
		}
	}
}

// P12.1: what is refused changes nothing: the word that stands is the one that
// was taken, for good or until a greater view's.
func TestSayKeeps(t *testing.T) {
	a, b := req(7), req(8)
	for _, k := range kinds() {
		for from := range uint8(4) {
			for _, view := range []uint32{1, 2, 3, 4, 5, 6, 7, 8, math.MaxUint32} {
				if k == prepare && Primary(view) == from {
					continue // its Prepare is never counted
				}
				start := func() *Log {
					l := New(0)
					must(t, l, k, from, view, 5, a)
					refuse(t, l, k, from, view, 5, b, api.ErrTwice)
					refuse(t, l, k, from, view-1, 5, b, api.ErrTwice)
					refuse(t, l, k, from, 0, 5, b, api.ErrTwice)
					refuse(t, l, k, from, view, 5, a, api.ErrTwice)
					refuse(t, l, k, from+4, view, 5, b, api.ErrWindow)
					refuse(t, l, k, from, view, 13, b, api.ErrWindow)
					return l
				}
				stands(t, start(), k, from, view, 5, a, true, "the one taken")
				stands(t, start(), k, from, view, 5, b, false, "another request")
				stands(t, start(), k, from, view-1, 5, a, false, "the view below")
				stands(t, start(), k, from, view-1, 5, b, false, "what was refused below")
			}
		}
	}
}

// P12.1: a greater view's word takes the place of the elder one.
func TestSayReplaces(t *testing.T) {
	a, b := req(7), req(8)
	for _, k := range kinds() {
		for from := range uint8(4) {
			start := func() *Log {
				l := New(0)
				must(t, l, k, from, uint32(from)+1, 5, a)
				must(t, l, k, from, uint32(from)+2, 5, b)
				return l
			}
			stands(t, start(), k, from, uint32(from)+2, 5, b, true, "the new one")
			stands(t, start(), k, from, uint32(from)+2, 5, a, false, "the elder request")
			stands(t, start(), k, from, uint32(from)+1, 5, a, false, "the elder one")
			stands(t, start(), k, from, uint32(from)+1, 5, b, false, "the new request")
		}
	}
}

// P12.1: words of what is no replica.
func TestSayFrom(t *testing.T) {
	for _, k := range kinds() {
		l := New(0)
		for from := 4; from < 256; from++ {
			refuse(t, l, k, uint8(from), 0, 1, req(7), api.ErrWindow)
			refuse(t, l, k, uint8(from), 1, 8, req(7), api.ErrWindow)
			refuse(t, l, k, uint8(from), 1, 9, req(7), api.ErrWindow)
			refuse(t, l, k, uint8(from), 1, 0, req(7), api.ErrWindow)
		}
		for from := range uint8(4) {
			must(t, l, k, from, 0, 1, req(8))
			must(t, l, k, from, 0, 8, req(8))
		}
	}
}

// P12.1: one replica's word is no other's, one place's no other's, one kind's
// no other's: what bars the one bars none of the rest.
func TestSayApart(t *testing.T) {
	for _, k := range kinds() {
		for from := range uint8(4) {
			for seq := uint32(11); seq <= 18; seq++ {
				l := New(10)
				must(t, l, k, from, 9, seq, req(7))
				for _, k2 := range kinds() {
					for from2 := range uint8(4) {
						for seq2 := uint32(11); seq2 <= 18; seq2++ {
							want := api.OK
							if k2 == k && from2 == from && seq2 == seq {
								want = api.ErrTwice
							}
							refuse(t, l, k2, from2, 0, seq2, req(8), want)
						}
					}
				}
				wantNone(t, l, seq, "not accepted")
				must(t, l, accept, 0, 0, seq, req(8))
			}
		}
	}
}

// P12.1: a place that was accepted bars no word of an elder view there, nor
// one of another request; and none bars an acceptance.
func TestSayBesideAccept(t *testing.T) {
	for _, k := range kinds() {
		for from := range uint8(4) {
			l := New(0)
			must(t, l, accept, 0, 5, 1, req(7))
			must(t, l, k, from, 0, 1, req(8))
			must(t, l, k, from, 9, 1, req(9))
			wantAt(t, l, 1, accepted, 5, req(7), "words beside it")
			must(t, l, accept, 0, 6, 1, req(8))
			wantAt(t, l, 1, accepted, 6, req(8), "accepted anew")
		}
	}
}

// P12.2: the chapter's example, and each step up to the end.
func TestSteps(t *testing.T) {
	a := req(7)
	l := New(0)
	steps := []struct {
		kind kind
		from uint8
		far  far
	}{
		{accept, 0, accepted},
		{prepare, 0, accepted}, // the Primary's
		{prepare, 1, accepted},
		{commit, 0, accepted},
		{prepare, 2, prepared},
		{prepare, 3, prepared},
		{commit, 2, prepared},
		{commit, 3, committed},
		{commit, 1, committed},
	}
	wantNone(t, l, 3, "nothing")
	for i, x := range steps {
		must(t, l, x.kind, x.from, 0, 3, a)
		wantAt(t, l, 3, x.far, 0, a, fmt.Sprintf("step %d", i))
		for _, seq := range []uint32{0, 1, 2, 4, 5, 6, 7, 8, 9, 11, math.MaxUint32} {
			wantNone(t, l, seq, "another place")
		}
	}
	two := New(0)
	must(t, two, accept, 0, 0, 1, a)
	must(t, two, prepare, 1, 0, 1, a)
	must(t, two, prepare, 2, 0, 1, a)
	wantAt(t, two, 1, prepared, 0, a, "the example")
}

// sets are all sets of replicas.
func sets() [][4]bool {
	var l [][4]bool
	for n := range 16 {
		l = append(l, [4]bool{n&1 != 0, n&2 != 0, n&4 != 0, n&8 != 0})
	}
	return l
}

// reach is how far a place comes by right words of these replicas.
func reach(view uint32, prepares, commits [4]bool) far {
	p, c := 0, 0
	for i := range 4 {
		if prepares[i] && uint32(i) != view%4 {
			p++
		}
		if commits[i] {
			c++
		}
	}
	switch {
	case p >= 2 && c >= 3:
		return committed
	case p >= 2:
		return prepared
	}
	return accepted
}

// hear says right words of these replicas.
func hear(t *testing.T, l *Log, k kind, set [4]bool, view, seq uint32, r api.Request) {
	t.Helper()
	for from, says := range set {
		if says {
			must(t, l, k, uint8(from), view, seq, r)
		}
	}
}

// P12.2: every set of Prepares with every set of Commits, under every Primary,
// with the acceptance first, between them and last.
func TestReach(t *testing.T) {
	for _, view := range []uint32{0, 1, 2, 3, 4, 7, math.MaxUint32} {
		for _, r := range []api.Request{req(7), {}} {
			for _, p := range sets() {
				for _, c := range sets() {
					for when := range 4 {
						l := New(100)
						say := []func(){
							func() { hear(t, l, prepare, p, view, 108, r) },
							func() { hear(t, l, commit, c, view, 108, r) },
						}
						if when == 3 { // Commits ahead of the Prepares too
							say[0], say[1] = say[1], say[0]
						}
						for i := range 3 {
							if i == when%3 {
								must(t, l, accept, 0, view, 108, r)
							}
							if i < 2 {
								say[i]()
							}
							if i < when%3 {
								wantNone(t, l, 108, "ahead of the acceptance")
							}
						}
						what := fmt.Sprintf("view %d, Prepares %v, Commits %v", view, p, c)
						wantAt(t, l, 108, reach(view, p, c), view, r, what)
					}
				}
			}
		}
	}
}

// Ways in which a replica's word may be.
const (
	silent = iota
	right
	elder
	later
	another
	howMany
)

// sayAs says a replica's word in one of these ways.
func sayAs(t *testing.T, l *Log, k kind, from uint8, view, seq uint32, r api.Request, way int) {
	t.Helper()
	switch way {
	case right:
		must(t, l, k, from, view, seq, r)
	case elder:
		must(t, l, k, from, view-1, seq, r)
	case later:
		must(t, l, k, from, view+1, seq, r)
	case another:
		must(t, l, k, from, view, seq, req(r.Ts+1))
	}
}

// P12.2: only words of the accepted view and request count: each of the four
// replicas in each way, its Prepares and its Commits.
func TestWays(t *testing.T) {
	a := req(7)
	for n := range howMany * howMany * howMany * howMany {
		ways := [4]int{n % howMany, n / howMany % howMany, n / howMany / howMany % howMany, n / howMany / howMany / howMany}
		var good [4]bool
		for i, way := range ways {
			good[i] = way == right
		}
		for view := uint32(1); view <= 4; view++ {
			for _, other := range sets() {
				l, l2 := New(0), New(0)
				for from, way := range ways {
					sayAs(t, l, prepare, uint8(from), view, 1, a, way)
					sayAs(t, l2, commit, uint8(from), view, 1, a, way)
				}
				must(t, l, accept, 0, view, 1, a)
				must(t, l2, accept, 0, view, 1, a)
				hear(t, l, commit, other, view, 1, a)
				hear(t, l2, prepare, other, view, 1, a)
				what := fmt.Sprintf("view %d, ways %v, the others %v", view, ways, other)
				wantAt(t, l, 1, reach(view, good, other), view, a, "Prepares: "+what)
				wantAt(t, l2, 1, reach(view, other, good), view, a, "Commits: "+what)
			}
		}
	}
}

// P12.2: words of requests that are unlike in one part don't count.
func TestUnlikeWords(t *testing.T) {
	for _, other := range unlike() {
		for _, x := range [][2]api.Request{{req(7), other}, {other, req(7)}} {
			l := New(0)
			must(t, l, accept, 0, 0, 1, x[0])
			must(t, l, prepare, 1, 0, 1, x[0])
			must(t, l, prepare, 2, 0, 1, x[1])
			wantAt(t, l, 1, accepted, 0, x[0], "an unlike Prepare")
			must(t, l, prepare, 3, 0, 1, x[0])
			wantAt(t, l, 1, prepared, 0, x[0], "two like ones")
			must(t, l, commit, 0, 0, 1, x[0])
			must(t, l, commit, 1, 0, 1, x[0])
			must(t, l, commit, 2, 0, 1, x[1])
			wantAt(t, l, 1, prepared, 0, x[0], "an unlike Commit")
			must(t, l, commit, 3, 0, 1, x[0])
			wantAt(t, l, 1, committed, 0, x[0], "three like ones")
		}
	}
}

// P12.2: a place that is accepted anew: what was said in the elder view counts
// no more, the same request or another; the new view's Primary is another one.
func TestAnew(t *testing.T) {
	a, b := req(7), req(8)
	for _, r := range []api.Request{a, b} {
		l := New(0)
		whole(t, l, 2, 0, a)
		must(t, l, accept, 0, 0, 2, a)
		wantAt(t, l, 2, committed, 0, a, "the same again")
		must(t, l, accept, 0, 1, 2, r)
		wantAt(t, l, 2, accepted, 1, r, "anew")
		refuse(t, l, accept, 0, 0, 2, a, api.ErrTwice)
		wantAt(t, l, 2, accepted, 1, r, "the elder one is over")
		refuse(t, l, prepare, 0, 0, 2, a, api.ErrTwice)
		must(t, l, prepare, 1, 1, 2, r)
		must(t, l, prepare, 0, 1, 2, r)
		wantAt(t, l, 2, accepted, 1, r, "the new Primary's, and one")
		must(t, l, prepare, 3, 1, 2, r)
		wantAt(t, l, 2, prepared, 1, r, "two")
		must(t, l, commit, 0, 1, 2, r)
		must(t, l, commit, 1, 1, 2, r)
		wantAt(t, l, 2, prepared, 1, r, "two Commits, two of the elder view")
		must(t, l, commit, 2, 1, 2, r)
		wantAt(t, l, 2, committed, 1, r, "three")
		// The word of 3 is the elder view's still; it says so in a later one.
		must(t, l, commit, 3, 2, 2, r)
		wantAt(t, l, 2, committed, 1, r, "three and a later one")
		must(t, l, commit, 0, 2, 2, r)
		wantAt(t, l, 2, prepared, 1, r, "one of the three went on")
		must(t, l, prepare, 0, 2, 2, r)
		wantAt(t, l, 2, accepted, 1, r, "and with its Prepare")
	}
}

// P12.2: words that came ahead of a greater view's acceptance count in it.
func TestAhead(t *testing.T) {
	a, b := req(7), req(8)
	l := New(0)
	must(t, l, accept, 0, 0, 1, a)
	for from := range uint8(4) {
		must(t, l, prepare, from, 5, 1, b)
		must(t, l, commit, from, 5, 1, b)
		wantAt(t, l, 1, accepted, 0, a, "ahead of it")
	}
	must(t, l, accept, 0, 3, 1, b)
	wantAt(t, l, 1, accepted, 3, b, "a view between")
	must(t, l, accept, 0, 5, 1, b)
	wantAt(t, l, 1, committed, 5, b, "their view")
}

// mixed brings the eight places above low as far as their numbers tell, each
// with a view and a request of its own; those that don't fit are left out.
func mixed(t *testing.T, l *Log, low uint32) {
	t.Helper()
	for d := uint32(1); d <= 8 && low+d > low; d++ {
		mixedAt(t, l, low+d)
	}
}

// fate is how far mixed brings a place, in which view, with which request.
func fate(seq uint32) (far, uint32, api.Request) {
	return far(seq % 4), seq%5 + 1, req(seq)
}

func mixedAt(t *testing.T, l *Log, seq uint32) {
	t.Helper()
	f, view, r := fate(seq)
	if f >= accepted {
		must(t, l, accept, 0, view, seq, r)
	}
	for from := range uint8(4) {
		if f >= prepared {
			must(t, l, prepare, from, view, seq, r)
		}
		if f >= committed && from != 2 {
			must(t, l, commit, from, view, seq, r)
		}
	}
}

func wantMixed(t *testing.T, l *Log, low, from, to uint32, what string) {
	t.Helper()
	for _, seq := range around(low) {
		f, view, r := fate(seq)
		if seq <= from || seq > to {
			f = none
		}
		wantAt(t, l, seq, f, view, r, what)
	}
}

// P12.2: Move to below, to Low, and upwards by all widths: what is still In
// stays whole, what isn't is gone.
func TestMove(t *testing.T) {
	for _, low := range lows() {
		top := uint32(min(uint64(low)+8, math.MaxUint32))
		targets := []uint32{0, math.MaxUint32, math.MaxUint32 - 1, low + 100, low + 1<<16, low + 1<<8}
		for d := range uint32(24) {
			targets = append(targets, low-12+d)
		}
		for _, to := range targets {
			l := New(low)
			mixed(t, l, low)
			wantMixed(t, l, low, low, top, "ahead of the Move")
			l.Move(to)
			now := max(low, to)
			if l.Low() != now {
				t.Fatalf("%d moved to %d: Low %d", low, to, l.Low())
			}
			what := fmt.Sprintf("%d moved to %d", low, to)
			for _, seq := range append(around(low), around(now)...) {
				if l.In(seq) != inside(now, seq) {
					t.Fatalf("%s: In %d: %v", what, seq, l.In(seq))
				}
				f, view, r := fate(seq)
				if !inside(low, seq) || !inside(now, seq) {
					f = none
				}
				wantAt(t, l, seq, f, view, r, what)
			}
			afterMove(t, l, low, now, what)
		}
	}
}

// afterMove goes on with a log that has moved: places that are new in it take
// all, in view 0 too; those that stayed bar what they barred.
func afterMove(t *testing.T, l *Log, low, now uint32, what string) {
	t.Helper()
	for d := uint32(1); d <= 8 && now+d > now; d++ {
		seq := now + d
		if !inside(low, seq) {
			wantNone(t, l, seq, what)
			whole(t, l, seq, 0, req(seq))
			continue
		}
		f, view, r := fate(seq)
		want := api.OK
		if f >= accepted {
			want = api.ErrTwice
		}
		refuse(t, l, accept, 0, view, seq, req(r.Ts+1), want)
		for from := range uint8(4) {
			want := [2]api.Errno{}
			if f >= prepared {
				want[0] = api.ErrTwice
			}
			if f >= committed && from != 2 {
				want[1] = api.ErrTwice
			}
			refuse(t, l, prepare, from, view, seq, r, want[0])
			refuse(t, l, commit, from, view, seq, r, want[1])
		}
	}
}

// P12.2: what the window left is gone for good: words too that nothing was
// accepted for; a place filled anew hears nothing of the one ahead of it.
func TestMoveGone(t *testing.T) {
	for by := uint32(1); by <= 20; by++ {
		l := New(0)
		for seq := uint32(1); seq <= 8; seq++ {
			for from := range uint8(4) {
				must(t, l, prepare, from, 0, seq, req(7))
				must(t, l, commit, from, 0, seq, req(7))
			}
		}
		l.Move(by)
		for seq := by + 1; seq <= by+8; seq++ {
			wantNone(t, l, seq, "nothing accepted")
			must(t, l, accept, 0, 0, seq, req(7))
			f := accepted
			if seq <= 8 {
				f = committed
			}
			wantAt(t, l, seq, f, 0, req(7), fmt.Sprintf("moved by %d", by))
		}
		for seq := uint32(1); seq <= by; seq++ {
			refuse(t, l, accept, 0, 9, seq, req(7), api.ErrWindow)
			refuse(t, l, prepare, 1, 9, seq, req(7), api.ErrWindow)
			refuse(t, l, commit, 1, 9, seq, req(7), api.ErrWindow)
			wantNone(t, l, seq, "left behind")
		}
		l.Move(0)
		l.Move(by)
		l.Move(by - 1)
		if l.Low() != by {
			t.Errorf("moved back to %d", l.Low())
		}
		wantAt(t, l, by+1, fit(by+1 <= 8), 0, req(7), "not moved back")
	}
}

// fit is how far TestMoveGone brings a place that was in the window before,
// and one that wasn't.
func fit(old bool) far {
	if old {
		return committed
	}
	return accepted
}

// book is the chapter put otherwise: all that was heard, by what it is of,
// without windows' places.
type book struct {
	low   uint32
	heard map[of]in
}

// of tells what a word is of; an acceptance's from is 0.
type of struct {
	kind kind
	from uint8
	seq  uint32
}

type in struct {
	view uint32
	req  api.Request
}

func (b *book) tell(k kind, from uint8, view, seq uint32, r api.Request) api.Errno {
	if !inside(b.low, seq) || k != accept && from > 3 {
		return api.ErrWindow
	}
	if k == accept {
		from = 0
	}
	old, ok := b.heard[of{k, from, seq}]
	again := ok && old == in{view, r}
	if ok && old.view >= view && !(k == accept && again) {
		return api.ErrTwice
	}
	b.heard[of{k, from, seq}] = in{view, r}
	return api.OK
}

func (b *book) move(low uint32) {
	b.low = max(b.low, low)
	for x := range b.heard {
		if !inside(b.low, x.seq) {
			delete(b.heard, x)
		}
	}
}

func (b *book) at(seq uint32) (far, uint32, api.Request) {
	w, ok := b.heard[of{accept, 0, seq}]
	if !ok {
		return none, 0, api.Request{}
	}
	var p, c [4]bool
	for i := range p {
		x, ok := b.heard[of{prepare, uint8(i), seq}]
		y, ok2 := b.heard[of{commit, uint8(i), seq}]
		p[i], c[i] = ok && x == w, ok2 && y == w
	}
	return reach(w.view, p, c), w.view, w.req
}

// P12.1, P12.2: long rows of all calls, wrong ones among them: a log tells
// what the book does, behind each.
func TestRows(t *testing.T) {
	rnd := rand.New(rand.NewSource(12))
	reqs := []api.Request{req(1), {}, {Client: 200, Op: api.Op{Kind: 99}}}
	views := []uint32{0, 1, 2, 3, 4, 5, math.MaxUint32 - 1, math.MaxUint32}
	var seen [4]int
	for row := range 400 {
		low := lows()[row%len(lows())]
		l, b := New(low), &book{low: low, heard: map[of]in{}}
		for n := range 400 {
			k, from := kind(rnd.Intn(5)/2), uint8(rnd.Intn(4))
			if rnd.Intn(30) == 0 {
				from = uint8(rnd.Intn(256))
			}
			seq := b.low + uint32(rnd.Intn(3)) + 1
			if rnd.Intn(8) == 0 {
				seq = b.low + uint32(rnd.Intn(14)) - 2
			}
			// They go up slowly, so that places come far in each.
			view, r := views[n/50], reqs[row%len(reqs)]
			if rnd.Intn(10) == 0 {
				view, r = views[rnd.Intn(n/50+1)], reqs[rnd.Intn(len(reqs))]
			}
			if rnd.Intn(100) == 0 {
				to := b.low + uint32(rnd.Intn(12)) - 2
				l.Move(to)
				b.move(to)
			} else if e, want := tell(l, k, from, view, seq, r), b.tell(k, from, view, seq, r); e != want {
				t.Fatalf("row %d: call %d of %d in view %d at %d: %v, not %v", row, k, from, view, seq, e, want)
			}
			if l.Low() != b.low {
				t.Fatalf("row %d: Low %d, not %d", row, l.Low(), b.low)
			}
			for d := range uint32(14) {
				f, view, r := b.at(b.low - 2 + d)
				wantAt(t, l, b.low-2+d, f, view, r, fmt.Sprintf("row %d", row))
				seen[f]++
			}
		}
	}
	if min(seen[none], seen[accepted], seen[prepared], seen[committed]) < 1000 {
		t.Errorf("the rows reach too little: %v", seen)
	}
}

// P12.1, P12.2: answers hang on what was told, not on when it is asked, nor on
// other logs.
func TestAsking(t *testing.T) {
	a, b := New(0), New(0)
	for _, l := range []*Log{a, b} {
		mixed(t, l, 0)
	}
	b.Move(5)
	whole(t, b, 13, 0, req(1))
	for range 3 {
		wantMixed(t, a, 0, 0, 8, "asked again")
	}
	x, _ := a.Accepted(1)
	x.Req = req(99)
	wantMixed(t, a, 0, 0, 8, "an answer written over")
}

// others are the three beside one.
func others(liar uint8) [3]uint8 {
	var l [3]uint8
	n := 0
	for i := range uint8(4) {
		if i != liar {
			l[n] = i
			n++
		}
	}
	return l
}

// choice is what a replica says of the two requests: 0: nothing.
func choice(n, i int) int {
	for range i {
		n /= 3
	}
	return n % 3
}

// hearChoice says the request that is chosen.
func hearChoice(l *Log, k kind, from uint8, view uint32, c int) {
	if c > 0 {
		tell(l, k, from, view, 1, req(uint32(c)))
	}
}

// P12.3: one place, one view, two requests: all that three honest replicas may
// say, with all that a fourth may say and that may be accepted: whichever two
// logs heard of it, they tell no unlike requests as committed; none as
// prepared, unless honest ones say unlike requests.
func TestOneView(t *testing.T) {
	both, split := 0, 0
	for liar := range uint8(4) {
		honest := others(liar)
		for view := range uint32(4) {
			for says := range 27 * 27 {
				var toldP, toldC [3]int // how many logs tell a request so
				for lies := range 9 {
					for laid := 1; laid <= 2; laid++ {
						l := New(0)
						l.Accept(view, 1, req(uint32(laid)))
						for i, from := range honest {
							hearChoice(l, prepare, from, view, choice(says, i))
							hearChoice(l, commit, from, view, choice(says, 3+i))
						}
						hearChoice(l, prepare, liar, view, choice(lies, 0))
						hearChoice(l, commit, liar, view, choice(lies, 1))
						if x, ok := l.Prepared(1); ok {
							toldP[x.Req.Ts]++
						}
						if x, ok := l.Committed(1); ok {
							toldC[x.Req.Ts]++
						}
					}
				}
				one := agree(says)
				if toldC[1] > 0 && toldC[2] > 0 {
					t.Fatalf("liar %d, view %d, %d: unlike requests are committed", liar, view, says)
				}
				if one && toldP[1] > 0 && toldP[2] > 0 {
					t.Fatalf("liar %d, view %d, %d: unlike requests are prepared", liar, view, says)
				}
				both += toldC[1] + toldC[2]
				if toldP[1] > 0 && toldP[2] > 0 {
					split++
				}
			}
		}
	}
	if both == 0 || split == 0 {
		t.Errorf("nothing was put to the test: %d, %d", both, split)
	}
}

// agree tells whether no two of three honest replicas prepare unlike requests.
func agree(says int) bool {
	var n [3]int
	for i := range 3 {
		n[choice(says, i)]++
	}
	return n[1] == 0 || n[2] == 0
}

// world is two logs, three honest replicas, a liar, and what the logs told as
// prepared and as committed, at any time.
type world struct {
	rnd  *rand.Rand
	liar uint8
	logs [2]*Log
	says map[of]map[uint32]api.Request // what honest ones say, by view
	// By log, and by whether it was told as committed.
	told [2][2]map[placeIn]api.Request
}

type placeIn struct{ seq, view uint32 }

func newWorld(seed int64) *world {
	w := &world{rnd: rand.New(rand.NewSource(seed)), liar: uint8(seed % 4), says: map[of]map[uint32]api.Request{}}
	for i := range w.logs {
		w.logs[i] = New(0)
		w.told[i] = [2]map[placeIn]api.Request{{}, {}}
	}
	return w
}

// say is the one request that an honest replica says at a place in a view: at
// some of them all say the same.
func (w *world) say(x of, view uint32) api.Request {
	if w.says[x] == nil {
		w.says[x] = map[uint32]api.Request{}
	}
	if _, ok := w.says[x][view]; !ok {
		r := req((x.seq+view)%2 + 1)
		if (x.seq+view)%3 == 0 {
			r = req(uint32(w.rnd.Intn(2)) + 1)
		}
		w.says[x][view] = r
	}
	return w.says[x][view]
}

// step tells one of the logs something; the views go up slowly, so that places
// come far in each.
func (w *world) step(n int) {
	i := w.rnd.Intn(2)
	l := w.logs[i]
	if w.rnd.Intn(200) == 0 {
		l.Move(l.Low() + uint32(w.rnd.Intn(3)))
		return
	}
	k, from := kind(w.rnd.Intn(5)/2), uint8(w.rnd.Intn(4))
	view, seq := uint32(n/200), l.Low()+uint32(w.rnd.Intn(4))
	if w.rnd.Intn(20) == 0 {
		view = uint32(w.rnd.Intn(4))
	}
	lie := req(uint32(i) + 1)
	if w.rnd.Intn(4) == 0 {
		lie = req(uint32(w.rnd.Intn(3)))
	}
	switch {
	case k == accept && w.rnd.Intn(2) == 0:
		l.Accept(view, seq, req((seq+view)%2+1))
	case k == accept || from == w.liar:
		tell(l, k, from, view, seq, lie)
	default:
		tell(l, k, from, view, seq, w.say(of{k, from, seq}, view))
	}
}

// split tells whether honest ones prepare unlike requests there. What wasn't
// heard by then may still come, so all are asked.
func (w *world) split(x placeIn) bool {
	h := others(w.liar)
	first := w.say(of{prepare, h[0], x.seq}, x.view)
	for _, from := range h[1:] {
		if w.say(of{prepare, from, x.seq}, x.view) != first {
			return true
		}
	}
	return false
}

// watch takes down what a log tells of its window.
func (w *world) watch(t *testing.T) {
	t.Helper()
	for i, l := range w.logs {
		for d := range uint32(8) {
			for f, call := range []func(uint32) (api.Entry, bool){l.Prepared, l.Committed} {
				e, ok := call(l.Low() + d + 1)
				if !ok {
					continue
				}
				x := placeIn{e.Seq, e.View}
				if old, known := w.told[i][f][x]; known && old != e.Req {
					t.Fatalf("a log tells both %v and %v at %v", old, e.Req, x)
				}
				w.told[i][f][x] = e.Req
			}
		}
	}
}

// P12.3: two logs hear the same words of three honest replicas, each in an
// order of its own, and unlike ones of a liar, in several views, at several
// places, while their windows move.
func TestTwoLogs(t *testing.T) {
	var alike [2]int
	unalike := 0
	for seed := range int64(1500) {
		w := newWorld(seed)
		for n := range 800 {
			w.step(n)
			w.watch(t)
		}
		for f := range 2 {
			for x, r := range w.told[0][f] {
				other, ok := w.told[1][f][x]
				switch {
				case !ok:
				case other == r:
					alike[f]++
				case f == 1:
					t.Fatalf("seed %d: unlike requests are committed at %v: %v, %v", seed, x, r, other)
				case !w.split(x):
					t.Fatalf("seed %d: unlike requests are prepared at %v: %v, %v", seed, x, r, other)
				default:
					unalike++
				}
			}
		}
	}
	if min(alike[0], alike[1], unalike) < 100 {
		t.Errorf("too little was put to the test: %v, %d", alike, unalike)
	}
}
