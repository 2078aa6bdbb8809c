package copro

import (
	"math"
	"math/rand"
	"strconv"
	"testing"

	"palisade/api"
)

// state is all that a coprocessor tells.
type state struct {
	id, epoch uint8
	view      uint32
	halted    bool
	peers     [256]uint8
}

func stateOf(c *Copro) state {
	s := state{id: c.Id(), epoch: c.Epoch(), view: c.View(), halted: c.Halted()}
	for id := range s.peers {
		s.peers[id] = c.Peer(uint8(id))
	}
	return s
}

// first is what the chapter says of a new one.
func first(id uint8) state {
	s := state{id: id, epoch: 1}
	s.peers[0], s.peers[1], s.peers[2], s.peers[3] = 1, 1, 1, 1
	s.peers[id] = 1
	return s
}

// want holds what c tells against s; it doesn't go on behind a fault.
func want(t *testing.T, c *Copro, s state, what string) {
	t.Helper()
	got := stateOf(c)
	if got == s {
		return
	}
	for id := range s.peers {
		if got.peers[id] != s.peers[id] {
			t.Errorf("%s: peer %d: %d, not %d", what, id, got.peers[id], s.peers[id])
		}
	}
	t.Fatalf("%s: id %d, epoch %d, view %d, halted %v; not %d, %d, %d, %v", what,
		got.id, got.epoch, got.view, got.halted, s.id, s.epoch, s.view, s.halted)
}

// count brings a new one's epoch up to that.
func count(t *testing.T, c *Copro, epoch uint8) {
	t.Helper()
	for range epoch - 1 {
		if e := c.Next(); e != api.OK {
			t.Fatalf("Next at %d: %v", c.Epoch(), e)
		}
	}
	if c.Epoch() != epoch {
		t.Fatalf("epoch %d, not %d", c.Epoch(), epoch)
	}
}

// halt brings a new one to its end, and past it.
func halt(t *testing.T, c *Copro) {
	t.Helper()
	count(t, c, 200)
	if e := c.Next(); e != api.ErrHalt {
		t.Fatalf("Next at the end: %v", e)
	}
}

// noReplicas are numbers that are no replica's, those of clients among them.
func noReplicas() []uint8 {
	return []uint8{4, 5, 6, 7, 8, 11, 14, 127, 128, 132, 199, 200, 201, 254, 255}
}

func replicas() []uint8 { return []uint8{0, 1, 2, 3} }

// P5.1: of each number, also of those that are no replica's.
func TestNew(t *testing.T) {
	for id := range 256 {
		want(t, New(uint8(id)), first(uint8(id)), "new")
	}
}

// P5.1: the chapter's limits are those of package api.
func TestLimits(t *testing.T) {
	if api.MaxEpoch != 200 || api.MaxView != 1<<20 || api.Replicas != 4 || api.ErrHalt != 50 {
		t.Error("other limits than these tests are written for")
	}
}

// P5.1: each step up to the end; there ErrHalt, and again behind that.
func TestNext(t *testing.T) {
	for _, id := range append(replicas(), noReplicas()...) {
		c, s := New(id), first(id)
		for epoch := uint8(2); epoch <= 200; epoch++ {
			if e := c.Next(); e != api.OK {
				t.Fatalf("Next to %d: %v", epoch, e)
			}
			s.epoch, s.peers[id] = epoch, epoch
			want(t, c, s, "counted")
		}
		s.halted = true
		for range 300 {
			if e := c.Next(); e != api.ErrHalt {
				t.Fatalf("Next at the end: %v", e)
			}
			want(t, c, s, "at the end")
		}
	}
}

// P5.1: the view is the greatest so far, held to 2^20; nothing else changes.
func TestRaise(t *testing.T) {
	c, s := New(1), first(1)
	for i, row := range []struct{ view, want uint32 }{
		{0, 0},
		{1, 1},
		{0, 1},
		{5, 5},
		{5, 5},
		{4, 5},
		{3, 5},
		{256, 256},
		{255, 256},
		{257, 257},
		{1 << 16, 1 << 16},
		{1<<16 - 1, 1 << 16},
		{1, 1 << 16},
		{1<<20 - 2, 1<<20 - 2},
		{1<<20 - 1, 1<<20 - 1},
		{1 << 20, 1 << 20},
		{1 << 20, 1 << 20},
		{1<<20 - 1, 1 << 20},
		{1<<20 + 1, 1 << 20},
		{math.MaxUint32, 1 << 20},
		{0, 1 << 20},
	} {
		c.Raise(row.view)
		s.view = row.want
		want(t, c, s, "row "+strconv.Itoa(i))
	}
}

// P5.1: more than the limit, also as the first one and also from just below.
func TestRaiseBeyond(t *testing.T) {
	for _, from := range []uint32{0, 1, 1<<20 - 1, 1 << 20} {
		for _, view := range []uint32{1 << 20, 1<<20 + 1, 1 << 21, 1<<31 - 1, 1 << 31, 1<<31 + 1, math.MaxUint32 - 1, math.MaxUint32} {
			c, s := New(3), first(3)
			c.Raise(from)
			c.Raise(view)
			s.view = 1 << 20
			want(t, c, s, "beyond")
		}
	}
}

// P5.1: its own epoch goes with its counter, the others' with what was met.
func TestPeer(t *testing.T) {
	for _, id := range append(replicas(), noReplicas()...) {
		c, s := New(id), first(id)
		met := uint8(50)
		for _, other := range replicas() {
			if other == id {
				continue
			}
			if !c.Meet(other, met) {
				t.Fatalf("%d: Meet(%d, %d) is false", id, other, met)
			}
			s.peers[other] = met
			want(t, c, s, "met")
			met += 10
		}
		count(t, c, 120)
		s.epoch, s.peers[id] = 120, 120
		want(t, c, s, "counted")
	}
}

// P5.1: from each epoch that can be known, with each that can be written.
func TestMeet(t *testing.T) {
	for _, known := range []uint8{1, 2, 7, 127, 128, 199, 200} {
		for epoch := range 256 {
			c, s := New(2), first(2)
			if c.Meet(3, known) != (known > 1) {
				t.Fatalf("Meet(3, %d) of a new one", known)
			}
			above := epoch > int(known) && epoch <= 200
			if c.Meet(3, uint8(epoch)) != above {
				t.Fatalf("%d is known: Meet(3, %d) is %v", known, epoch, !above)
			}
			s.peers[3] = known
			if above {
				s.peers[3] = uint8(epoch)
			}
			want(t, c, s, "met")
		}
	}
}

// P5.1: who is another replica; its counter has nothing to do with it.
func TestMeetWhom(t *testing.T) {
	rows := []struct {
		epoch uint8
		rises bool
	}{
		{0, false}, {1, false}, {2, true}, {2, false}, {99, true}, {1, false}, {100, true}, {101, true},
		{201, false}, {255, false}, {200, true}, {200, false}, {255, false}, {0, false},
	}
	for _, self := range append(replicas(), noReplicas()...) {
		for id := range 256 {
			c, s := New(self), first(self)
			count(t, c, 100)
			s.epoch, s.peers[self] = 100, 100
			other := id < 4 && uint8(id) != self
			for _, row := range rows {
				told := other && row.rises
				if c.Meet(uint8(id), row.epoch) != told {
					t.Fatalf("%d: Meet(%d, %d) is %v", self, id, row.epoch, !told)
				}
				if told {
					s.peers[id] = row.epoch
				}
				want(t, c, s, "met")
			}
		}
	}
}

// P5.1: at the end, but not halted yet, it takes in all that it did before.
func TestAtTheEnd(t *testing.T) {
	c, s := New(0), first(0)
	count(t, c, 200)
	c.Raise(9)
	if !c.Meet(1, 200) || c.Meet(0, 200) {
		t.Error("Meet at the end")
	}
	s.epoch, s.peers[0], s.view, s.peers[1] = 200, 200, 9, 200
	want(t, c, s, "at the end")
}

// P5.1: halted, nothing changes any more.
func TestHalted(t *testing.T) {
	for _, self := range append(replicas(), noReplicas()...) {
		c, s := New(self), first(self)
		c.Raise(6)
		other := (self + 1) % 4
		if !c.Meet(other, 5) {
			t.Fatal("Meet ahead of the end")
		}
		halt(t, c)
		s.epoch, s.peers[self], s.view, s.peers[other], s.halted = 200, 200, 6, 5, true
		want(t, c, s, "halted")
		for _, view := range []uint32{0, 5, 6, 7, 1 << 20, 1<<20 + 1, math.MaxUint32} {
			c.Raise(view)
			want(t, c, s, "Raise")
		}
		for id := range 256 {
			for _, epoch := range []uint8{0, 1, 2, 4, 5, 6, 199, 200, 201, 255} {
				if c.Meet(uint8(id), epoch) {
					t.Fatalf("halted: Meet(%d, %d)", id, epoch)
				}
			}
		}
		want(t, c, s, "Meet")
		if e := c.Next(); e != api.ErrHalt {
			t.Fatalf("halted: Next: %v", e)
		}
		want(t, c, s, "Next")
	}
}

// P5.1: what one is told no other one knows.
func TestEachForItself(t *testing.T) {
	a, b, c := New(1), New(1), New(2)
	a.Raise(7)
	if !a.Meet(3, 9) {
		t.Fatal("Meet")
	}
	halt(t, a)
	want(t, b, first(1), "the same number")
	want(t, c, first(2), "another number")
}

// notBelow tells a fault, if something of after is below what it was.
func notBelow(t *testing.T, before, after state) {
	t.Helper()
	if after.id != before.id || after.epoch < before.epoch || after.view < before.view || before.halted && !after.halted {
		t.Fatalf("id %d, epoch %d, view %d, halted %v; before that %d, %d, %d, %v",
			after.id, after.epoch, after.view, after.halted, before.id, before.epoch, before.view, before.halted)
	}
	for id := range before.peers {
		if after.peers[id] < before.peers[id] {
			t.Fatalf("peer %d: %d, before that %d", id, after.peers[id], before.peers[id])
		}
	}
}

// drawnNumber is mostly a replica's; drawnEpoch and drawnView lie about what
// is known, about the limits, or anywhere.
func drawnNumber(r *rand.Rand) uint8 {
	if r.Intn(5) == 0 {
		return uint8(r.Intn(256))
	}
	return uint8(r.Intn(5))
}

func drawnEpoch(r *rand.Rand, near uint8) uint8 {
	switch r.Intn(60) {
	case 0:
		return uint8(r.Intn(256))
	case 1:
		return uint8(197 + r.Intn(6))
	}
	return near - min(near, 2) + uint8(r.Intn(5))
}

func drawnView(r *rand.Rand, near uint32) uint32 {
	switch r.Intn(200) {
	case 0:
		return r.Uint32()
	case 1:
		return 1<<20 + uint32(r.Intn(5)) - 2
	}
	// Held below, so that the first ones don't wrap round to more than the limit.
	return near - min(near, 4) + uint32(r.Intn(9))
}

// call does one call that is drawn.
func call(r *rand.Rand, c *Copro) {
	switch r.Intn(3) {
	case 0:
		c.Next()
	case 1:
		c.Raise(drawnView(r, c.View()))
	default:
		id := drawnNumber(r)
		c.Meet(id, drawnEpoch(r, c.Peer(id)))
	}
}

// P5.2: whatever row of calls, far past the counter's end.
func TestNothingGoesDown(t *testing.T) {
	r := rand.New(rand.NewSource(5))
	for range 40 {
		c := New(drawnNumber(r))
		before := stateOf(c)
		for range 1500 {
			call(r, c)
			after := stateOf(c)
			notBelow(t, before, after)
			if before.halted && after != before {
				t.Fatal("it changed behind its end")
			}
			before = after
		}
		if !before.halted {
			t.Fatal("the row didn't come to the end")
		}
	}
}

// P5.2: each call that is refused or passed over, ahead of the end and behind it.
func TestRefusedLeavesAll(t *testing.T) {
	c := New(1)
	c.Raise(1 << 19)
	for _, id := range []uint8{0, 2, 3} {
		if !c.Meet(id, 150) {
			t.Fatal("Meet")
		}
	}
	count(t, c, 200)
	refuse := func() {
		before := stateOf(c)
		for _, view := range []uint32{0, 1, 1<<19 - 1, 1 << 19} {
			c.Raise(view)
			want(t, c, before, "Raise")
		}
		for id := range 256 {
			for epoch := range 151 {
				if c.Meet(uint8(id), uint8(epoch)) {
					t.Fatalf("Meet(%d, %d)", id, epoch)
				}
			}
			for epoch := 201; epoch < 256; epoch++ {
				if c.Meet(uint8(id), uint8(epoch)) {
					t.Fatalf("Meet(%d, %d)", id, epoch)
				}
			}
		}
		want(t, c, before, "Meet")
	}
	refuse()
	if e := c.Next(); e != api.ErrHalt {
		t.Fatalf("Next at the end: %v", e)
	}
	refuse()
}

// book says P5.1 once more, by what it was told and not by what it keeps of it.
type book struct {
	self  uint8
	nexts int
	views []uint32
	met   map[uint8][]uint8
}

func (b *book) halted() bool { return b.nexts > 199 }

func (b *book) state() state {
	s := first(b.self)
	s.epoch, s.halted = uint8(min(1+b.nexts, 200)), b.halted()
	for _, v := range b.views {
		s.view = max(s.view, min(v, 1<<20))
	}
	for id, list := range b.met {
		for _, epoch := range list {
			s.peers[id] = max(s.peers[id], epoch)
		}
	}
	s.peers[b.self] = s.epoch
	return s
}

// meet tells what Meet must.
func (b *book) meet(id, epoch uint8) bool {
	if b.halted() || id == b.self || id > 3 || epoch < 1 || epoch > 200 || epoch <= b.state().peers[id] {
		return false
	}
	b.met[id] = append(b.met[id], epoch)
	return true
}

// P5.1, P5.2: whatever is called, it is as by the book.
func TestAsByTheBook(t *testing.T) {
	r := rand.New(rand.NewSource(15))
	for range 60 {
		self := drawnNumber(r)
		c, b := New(self), &book{self: self, met: map[uint8][]uint8{}}
		for range 700 {
			switch r.Intn(3) {
			case 0:
				b.nexts++
				if e := c.Next(); (e == api.ErrHalt) != b.halted() || (e == api.OK) == b.halted() {
					t.Fatalf("Next: %v", e)
				}
			case 1:
				view := drawnView(r, c.View())
				c.Raise(view)
				if !b.halted() {
					b.views = append(b.views, view)
				}
			default:
				id := drawnNumber(r)
				epoch := drawnEpoch(r, c.Peer(id))
				if told := b.meet(id, epoch); c.Meet(id, epoch) != told {
					t.Fatalf("Meet(%d, %d) is %v", id, epoch, !told)
				}
			}
			want(t, c, b.state(), "by the book")
		}
	}
}
