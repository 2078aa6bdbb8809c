package net

import (
	"fmt"
	"math"
	"math/rand"
	"slices"
	"testing"

	"palisade/api"
	"palisade/msg"
)

func put(client uint8, ts uint32) api.Request {
	return api.Request{Client: client, Ts: ts, Op: api.Op{Kind: api.OpPut, Key: 3, Val: 4}}
}

func vote(from, epoch uint8) api.Vote {
	n := 100 + uint32(from)
	return api.Vote{
		From: from, Epoch: epoch, View: 3, Low: n,
		Marks: []api.Mark{{Seq: 4, Root: uint64(from)}, {Seq: 8, Root: 9}},
		P:     []api.Entry{{Seq: 5, View: 1, Req: put(1, n)}, {Seq: 6, View: 2}},
		Q:     []api.Entry{{Seq: 5, View: 1, Req: put(1, n)}, {Seq: 5, View: 1, Req: put(2, n)}, {Seq: 7}},
	}
}

// plain is a message of each kind, of replica 2 in an epoch (a request: of
// client 3, at that time); each of its parts is unlike zero.
func plain(kind, epoch uint8) api.Msg {
	m := api.Msg{Kind: kind, From: 2, To: 1, Epoch: epoch}
	switch kind {
	case api.MRequest:
		m.From, m.Epoch, m.Req = 13, 0, put(3, uint32(epoch))
	case api.MPrePrepare, api.MPrepare, api.MCommit:
		m.View, m.Seq, m.Req = 6, 7, put(4, 5)
	case api.MCheckpoint:
		m.Seq, m.Root = 8, 1<<63
	case api.MVote:
		m.Vote = vote(2, epoch)
	case api.MNewView:
		m.View, m.Votes = 3, []api.Vote{vote(0, 11), vote(1, 12), vote(3, 13)}
	case api.MNewKey, api.MQuery:
		m.Count = epoch
	case api.MEstimate:
		m.Count, m.Seq = 255, 12
	case api.MFetch:
		m.Seq, m.Page = 12, 8
	case api.MSums:
		m.Seq, m.Sums = 12, []uint64{1, 2, 3, 4, 5, 6, 7, 1<<64 - 1}
	case api.MPage:
		m.Seq, m.Page, m.Data = 12, 7, []byte("abc")
	case api.MReply:
		m.To, m.View, m.Req, m.Result = 12, 5, put(2, 9), 1<<31
	}
	return m
}

func kinds() []uint8 {
	var all []uint8
	for k := uint8(api.MRequest); k <= api.MReply; k++ {
		all = append(all, k)
	}
	return all
}

// nth are messages of all kinds by turns, no two of them alike.
func nth(i int) api.Msg {
	return plain(kinds()[i%14], uint8(1+i/14))
}

func firstOf(count int) []api.Msg {
	all := make([]api.Msg, count)
	for i := range all {
		all[i] = nth(i)
	}
	return all
}

// filled is a bag with the first messages.
func filled(t *testing.T, count int) *Net {
	t.Helper()
	n := New()
	for i := range count {
		if e := n.Send(nth(i)); e != api.OK {
			t.Fatalf("Send of message %d: %v", i, e)
		}
	}
	return n
}

// text tells everything of a message; of a nil list and an empty one the same.
func text(m api.Msg) string { return fmt.Sprintf("%+v", m) }

func alike(a, b api.Msg) bool { return text(a) == text(b) && msg.Same(a, b) }

// nowhere are places at which a bag of so many has nothing.
func nowhere(count int) []int {
	return []int{
		-1, -2, -count, -count - 1, -api.MaxBag, math.MinInt32, math.MinInt64, math.MinInt64 + 1,
		count, count + 1, count + api.MaxBag, count + 1<<8, count + 1<<16, math.MaxInt32, 1 << 32, 1<<32 + count, math.MaxInt64,
	}
}

// want holds all that a bag tells against a list.
func want(t *testing.T, n *Net, list []api.Msg, what string) {
	t.Helper()
	all := n.All()
	if n.Len() != len(list) || len(all) != len(list) {
		t.Fatalf("%s: Len %d, All has %d; not %d", what, n.Len(), len(all), len(list))
	}
	for i, m := range list {
		if !alike(all[i], m) {
			t.Fatalf("%s: All, place %d: %s, not %s", what, i, text(all[i]), text(m))
		}
		if got, ok := n.At(i); !ok || !alike(got, m) {
			t.Fatalf("%s: At(%d): %s, %v, not %s", what, i, text(got), ok, text(m))
		}
	}
	for _, i := range nowhere(len(list)) {
		if got, ok := n.At(i); ok || !alike(got, api.Msg{}) {
			t.Fatalf("%s: At(%d) of %d: %s, %v", what, i, len(list), text(got), ok)
		}
	}
}

// wantNone asks each call for what isn't there.
func wantNone(t *testing.T, n *Net, list []api.Msg, what string) {
	t.Helper()
	for _, i := range nowhere(len(list)) {
		if m, e := n.Take(i); e != api.ErrNone || !alike(m, api.Msg{}) {
			t.Fatalf("%s: Take(%d) of %d: %s, %v", what, i, len(list), text(m), e)
		}
		if e := n.Drop(i); e != api.ErrNone {
			t.Fatalf("%s: Drop(%d) of %d: %v", what, i, len(list), e)
		}
		if e := n.Double(i); e != api.ErrNone {
			t.Fatalf("%s: Double(%d) of %d: %v", what, i, len(list), e)
		}
	}
	want(t, n, list, what)
}

// without is list, but for the one at place i.
func without(list []api.Msg, i int) []api.Msg {
	return slices.Concat(list[:i], list[i+1:])
}

// P6.1: the chapter's limits and errors are those of package api.
func TestLimits(t *testing.T) {
	if api.MaxBag != 400 || api.ErrForm != 30 || api.ErrFull != 60 || api.ErrNone != 61 {
		t.Error("other limits than these tests are written for")
	}
}

// P6.1: a new bag has nothing, at no place.
func TestNew(t *testing.T) {
	n := New()
	want(t, n, nil, "new")
	for _, i := range []int{0, 1, -1, 399, 400} {
		if _, ok := n.At(i); ok {
			t.Errorf("At(%d)", i)
		}
	}
	wantNone(t, n, nil, "new")
}

// P6.1: the chapter's example.
func TestExample(t *testing.T) {
	n := New()
	if n.Send(nth(0)) != api.OK || n.Double(0) != api.OK || n.Len() != 2 {
		t.Errorf("%d, not two", n.Len())
	}
}

// P6.1: a message of each kind is the last one of those before it; a message
// may be sent again.
func TestSend(t *testing.T) {
	n := New()
	var list []api.Msg
	for range 2 {
		for _, kind := range kinds() {
			m := plain(kind, 7)
			if e := n.Send(m); e != api.OK {
				t.Fatalf("kind %d: %v", kind, e)
			}
			list = append(list, m)
			want(t, n, list, "sent")
		}
	}
	for _, kind := range kinds() {
		n, m := New(), plain(kind, 200)
		if e := n.Send(m); e != api.OK {
			t.Fatalf("kind %d alone: %v", kind, e)
		}
		want(t, n, []api.Msg{m}, "alone")
	}
}

// fullVote has as many entries in each list as a vote may have.
func fullVote(from uint8) api.Vote {
	v := api.Vote{From: from, Epoch: 200, View: api.MaxView, Low: api.MaxSeq}
	for i := range uint32(api.MaxList) {
		v.Marks = append(v.Marks, api.Mark{Seq: i, Root: uint64(from)<<32 + uint64(i)})
		v.P = append(v.P, api.Entry{Seq: i + 1, View: i, Req: put(from+1, i+1)})
		v.Q = append(v.Q, api.Entry{Seq: i + 1, View: i, Req: put(from+1, i+99)})
	}
	return v
}

// P6.1: messages with the longest lists, and with none.
func TestSendLists(t *testing.T) {
	list := []api.Msg{
		{Kind: api.MVote, From: 3, To: 3, Epoch: 200, Vote: fullVote(3)},
		{Kind: api.MVote, From: 3, To: 3, Epoch: 200, Vote: api.Vote{From: 3, Epoch: 200, View: 1}},
		{Kind: api.MVote, From: 3, Epoch: 200, Vote: api.Vote{From: 3, Epoch: 200, View: 1, Marks: []api.Mark{}, P: []api.Entry{}, Q: []api.Entry{}}},
		{Kind: api.MNewView, From: 3, Epoch: 200, View: api.MaxView, Votes: []api.Vote{fullVote(0), fullVote(1), fullVote(2), fullVote(3)}},
		{Kind: api.MNewView, From: 3, Epoch: 200, View: 1},
		{Kind: api.MNewView, From: 3, Epoch: 200, View: 1, Votes: []api.Vote{}},
		{Kind: api.MPage, From: 3, Epoch: 200, Data: slices.Repeat([]byte{255}, 64)},
		{Kind: api.MPage, From: 3, Epoch: 200},
		{Kind: api.MPage, From: 3, Epoch: 200, Data: []byte{}, Sums: []uint64{}, Votes: []api.Vote{}},
		{Kind: api.MSums, From: 3, Epoch: 200, Sums: make([]uint64, 8)},
	}
	n := New()
	for i, m := range list {
		if e := n.Send(m); e != api.OK {
			t.Fatalf("row %d: %v", i, e)
		}
	}
	want(t, n, list, "lists")
}

// noMessages are messages with one fault each.
func noMessages() []api.Msg {
	faulty := func(kind uint8, spoil func(m *api.Msg)) api.Msg {
		m := plain(kind, 7)
		spoil(&m)
		return m
	}
	all := []api.Msg{
		{},
		{Kind: api.MReply + 1, From: 2, To: 1, Epoch: 7},
		{Kind: 255, From: 2, To: 1, Epoch: 7},
		faulty(api.MPrepare, func(m *api.Msg) { m.Seq = 0 }),
		faulty(api.MPrepare, func(m *api.Msg) { m.View = api.MaxView + 1 }),
		faulty(api.MCheckpoint, func(m *api.Msg) { m.Seq = api.MaxSeq + 1 }),
		faulty(api.MNewKey, func(m *api.Msg) { m.Count++ }),
		faulty(api.MRequest, func(m *api.Msg) { m.Req = api.Request{} }),
		faulty(api.MRequest, func(m *api.Msg) { m.Req.Client = 4 }),
		faulty(api.MVote, func(m *api.Msg) { m.Vote.Epoch++ }),
		faulty(api.MVote, func(m *api.Msg) { m.Vote.P = make([]api.Entry, 41) }),
		faulty(api.MVote, func(m *api.Msg) { slices.Reverse(m.Vote.Marks) }),
		faulty(api.MNewView, func(m *api.Msg) { slices.Reverse(m.Votes) }),
		faulty(api.MNewView, func(m *api.Msg) { m.Votes[1].View++ }),
		faulty(api.MNewView, func(m *api.Msg) { m.Votes = make([]api.Vote, 5) }),
		faulty(api.MSums, func(m *api.Msg) { m.Sums = m.Sums[:7] }),
		faulty(api.MSums, func(m *api.Msg) { m.Sums = append(m.Sums, 9) }),
		faulty(api.MPage, func(m *api.Msg) { m.Page = 8 }),
		faulty(api.MPage, func(m *api.Msg) { m.Data = make([]byte, 65) }),
		faulty(api.MReply, func(m *api.Msg) { m.To = 2 }),
	}
	for _, kind := range kinds() {
		all = append(all,
			faulty(kind, func(m *api.Msg) { m.From = 4 }),
			faulty(kind, func(m *api.Msg) { m.To = 4 }),
			faulty(kind, func(m *api.Msg) { m.Epoch = 201 }),
			faulty(kind, func(m *api.Msg) { m.Kind = 0 }))
		if kind != api.MPage {
			all = append(all, faulty(kind, func(m *api.Msg) { m.Data = []byte{1} }))
		}
	}
	return all
}

// P6.1: what is no message is refused, also where the bag is full: ErrForm
// stands first.
func TestSendNoMessage(t *testing.T) {
	for _, count := range []int{0, 1, 20, 399, 400} {
		n, list := filled(t, count), firstOf(count)
		for i, m := range noMessages() {
			if e := n.Send(m); e != api.ErrForm {
				t.Fatalf("%d in it, row %d: %v", count, i, e)
			}
			if n.Len() != count {
				t.Fatalf("%d in it, row %d: %d behind it", count, i, n.Len())
			}
		}
		want(t, n, list, "refused")
	}
}

// P6.1: the 400th has room, one more has none, of whatever kind it is; room
// is there again behind each that goes out.
func TestSendFull(t *testing.T) {
	n, list := filled(t, 399), firstOf(400)
	want(t, n, list[:399], "one less")
	if e := n.Send(list[399]); e != api.OK {
		t.Fatalf("the 400th: %v", e)
	}
	want(t, n, list, "full")
	for _, kind := range kinds() {
		if e := n.Send(plain(kind, 99)); e != api.ErrFull {
			t.Fatalf("one more, of kind %d: %v", kind, e)
		}
	}
	want(t, n, list, "one more")
	for i, out := range []func() api.Errno{
		func() api.Errno { return n.Drop(7) },
		func() api.Errno { _, e := n.Take(7); return e },
	} {
		if e := out(); e != api.OK {
			t.Fatal(e)
		}
		last := nth(500 + i)
		if e := n.Send(last); e != api.OK {
			t.Fatalf("behind one that went out: %v", e)
		}
		list = append(without(list, 7), last)
		if e := n.Send(last); e != api.ErrFull {
			t.Fatalf("full again: %v", e)
		}
		want(t, n, list, "full again")
	}
}

// sizes are those of bags whose places are all gone through.
func sizes() []int { return []int{1, 2, 3, 5, 29} }

// places are all of a small bag, and some of a full one.
func places(count int) []int {
	if count == api.MaxBag {
		return []int{0, 1, 198, 199, 200, 398, 399}
	}
	var all []int
	for i := range count {
		all = append(all, i)
	}
	return all
}

// P6.1: what is taken is out, the others stay in their order.
func TestTake(t *testing.T) {
	for _, count := range append(sizes(), 400) {
		for _, i := range places(count) {
			n, list := filled(t, count), firstOf(count)
			m, e := n.Take(i)
			if e != api.OK || !alike(m, list[i]) {
				t.Fatalf("Take(%d) of %d: %s, %v", i, count, text(m), e)
			}
			want(t, n, without(list, i), "taken")
		}
	}
}

// P6.1: likewise what is dropped.
func TestDrop(t *testing.T) {
	for _, count := range append(sizes(), 400) {
		for _, i := range places(count) {
			n, list := filled(t, count), firstOf(count)
			if e := n.Drop(i); e != api.OK {
				t.Fatalf("Drop(%d) of %d: %v", i, count, e)
			}
			want(t, n, without(list, i), "dropped")
		}
	}
}

// P6.1: one after the other, until none is left; then it is as a new one.
func TestTakeAndDropAll(t *testing.T) {
	for _, place := range []func(left int) int{
		func(int) int { return 0 },
		func(left int) int { return left - 1 },
		func(left int) int { return left / 2 },
	} {
		n, list := filled(t, 400), firstOf(400)
		for len(list) > 0 {
			i := place(len(list))
			if len(list)%2 == 0 {
				if e := n.Drop(i); e != api.OK {
					t.Fatal(e)
				}
			} else if m, e := n.Take(i); e != api.OK || !alike(m, list[i]) {
				t.Fatalf("Take(%d) of %d: %s, %v", i, len(list), text(m), e)
			}
			list = without(list, i)
			if len(list)%50 == 0 {
				want(t, n, list, "less and less")
			}
		}
		wantNone(t, n, nil, "emptied")
		if e := n.Send(nth(3)); e != api.OK {
			t.Fatal(e)
		}
		want(t, n, []api.Msg{nth(3)}, "emptied, then sent")
	}
}

// P6.1: the same once more is the last one; the first one stays where it was.
func TestDouble(t *testing.T) {
	for _, count := range append(sizes(), 399) {
		for _, i := range places(count) {
			n, list := filled(t, count), firstOf(count)
			if e := n.Double(i); e != api.OK {
				t.Fatalf("Double(%d) of %d: %v", i, count, e)
			}
			list = append(list, list[i])
			want(t, n, list, "doubled")
			if count == 399 {
				break
			}
			if e := n.Double(count); e != api.OK {
				t.Fatalf("Double of what was doubled: %v", e)
			}
			want(t, n, append(list, list[i]), "doubled again")
		}
	}
}

// P6.1: a full bag has no room for the same once more; of what isn't there
// ErrNone stands first.
func TestDoubleFull(t *testing.T) {
	n, list := filled(t, 399), firstOf(399)
	if e := n.Double(398); e != api.OK {
		t.Fatalf("Double to 400: %v", e)
	}
	list = append(list, list[398])
	for _, i := range places(400) {
		if e := n.Double(i); e != api.ErrFull {
			t.Fatalf("Double(%d) of a full bag: %v", i, e)
		}
	}
	wantNone(t, n, list, "full")
	if e := n.Drop(0); e != api.OK {
		t.Fatal(e)
	}
	if e := n.Double(0); e != api.OK {
		t.Fatalf("behind one that went out: %v", e)
	}
	want(t, n, append(list[1:], list[1]), "full again")
}

// P6.1: of bags of each size there is nothing below 0, at Len, beyond.
func TestNowhere(t *testing.T) {
	for _, count := range []int{0, 1, 2, 20, 399, 400} {
		wantNone(t, filled(t, count), firstOf(count), "nowhere")
	}
}

// P6.1: what one bag is told no other one knows.
func TestEachForItself(t *testing.T) {
	a, b := filled(t, 400), New()
	want(t, b, nil, "the other one")
	for i := range 20 {
		if e := b.Send(nth(i)); e != api.OK {
			t.Fatal(e)
		}
	}
	for range 400 {
		if e := a.Drop(0); e != api.OK {
			t.Fatal(e)
		}
	}
	want(t, b, firstOf(20), "the other one")
	want(t, a, nil, "the one")
}

// reach is a list with its spare room.
func reach[T any](list []T) []T { return list[:cap(list)] }

// spoil changes whatever hangs on a message, the spare room behind its lists
// too, but not the message's own words.
func spoil(m api.Msg) {
	spoilVote(m.Vote)
	for i, v := range reach(m.Votes) {
		spoilVote(v)
		m.Votes[:cap(m.Votes)][i] = api.Vote{From: v.From + 1, Epoch: v.Epoch + 1, View: ^v.View, Low: ^v.Low, P: []api.Entry{{Seq: 77}}}
	}
	for i := range reach(m.Sums) {
		reach(m.Sums)[i] ^= 1<<63 + 1
	}
	for i := range reach(m.Data) {
		reach(m.Data)[i] ^= 0xa5
	}
}

func spoilVote(v api.Vote) {
	for i := range reach(v.Marks) {
		k := &reach(v.Marks)[i]
		k.Seq, k.Root = ^k.Seq, ^k.Root
	}
	spoilEntries(v.P)
	spoilEntries(v.Q)
}

func spoilEntries(list []api.Entry) {
	for i := range reach(list) {
		e := &reach(list)[i]
		e.Seq, e.View, e.Req = ^e.Seq, ^e.View, api.Request{Client: ^e.Req.Client, Ts: ^e.Req.Ts}
	}
}

// roomy is m, each list at the front of a longer one that is filled.
func roomy(m api.Msg) api.Msg {
	m.Vote = roomyVote(m.Vote)
	all := slices.Concat(m.Votes, []api.Vote{vote(0, 1), vote(1, 2)})
	for i, v := range all {
		all[i] = roomyVote(v)
	}
	m.Votes = all[:len(m.Votes)]
	m.Sums = slices.Concat(m.Sums, []uint64{91, 92, 93})[:len(m.Sums)]
	m.Data = append(slices.Clone(m.Data), "behind it"...)[:len(m.Data)]
	return m
}

func roomyVote(v api.Vote) api.Vote {
	v.Marks = slices.Concat(v.Marks, []api.Mark{{Seq: 94, Root: 95}, {Seq: 96}})[:len(v.Marks)]
	v.P = slices.Concat(v.P, []api.Entry{{Seq: 97, View: 98}, {Seq: 99}})[:len(v.P)]
	v.Q = slices.Concat(v.Q, []api.Entry{{Seq: 87, View: 88}, {Seq: 89}})[:len(v.Q)]
	return v
}

// wide tells a message with what lies in the spare room of its lists.
func wide(m api.Msg) string {
	widen := func(v api.Vote) api.Vote {
		v.Marks, v.P, v.Q = reach(v.Marks), reach(v.P), reach(v.Q)
		return v
	}
	m.Vote = widen(m.Vote)
	m.Votes = slices.Clone(reach(m.Votes))
	for i, v := range m.Votes {
		m.Votes[i] = widen(v)
	}
	m.Sums, m.Data = reach(m.Sums), reach(m.Data)
	return text(m)
}

func wideAll(list []api.Msg) string {
	var all []string
	for _, m := range list {
		all = append(all, wide(m))
	}
	return fmt.Sprint(all)
}

// TestSpoil: the tests below hang on it that spoil reaches every list.
func TestSpoil(t *testing.T) {
	m := api.Msg{Vote: vote(2, 7), Votes: []api.Vote{vote(0, 1), vote(1, 1)}, Sums: []uint64{1, 2}, Data: []byte{1, 2}}
	was := roomy(m)
	got := roomy(m)
	spoil(got)
	for i := range reach(got.Votes) {
		if fmt.Sprint(reach(got.Votes)[i]) == fmt.Sprint(reach(was.Votes)[i]) {
			t.Errorf("vote %d", i)
		}
	}
	unlike := func(what string, a, b []string) {
		for i := range a {
			if a[i] == b[i] {
				t.Errorf("%s %d: %s", what, i, a[i])
			}
		}
	}
	unlike("mark", texts(got.Vote.Marks), texts(was.Vote.Marks))
	unlike("P", texts(got.Vote.P), texts(was.Vote.P))
	unlike("Q", texts(got.Vote.Q), texts(was.Vote.Q))
	unlike("sum", texts(got.Sums), texts(was.Sums))
	unlike("byte", texts(got.Data), texts(was.Data))
}

func texts[T any](list []T) []string {
	var all []string
	for _, x := range reach(list) {
		all = append(all, fmt.Sprint(x))
	}
	return all
}

// P6.1: what was sent is a copy; what was handed in is left as it was, its
// spare room too, by Send and by all that comes behind it.
func TestSentIsCopied(t *testing.T) {
	n, list := New(), firstOf(28)
	var sent []api.Msg
	for _, m := range list {
		m = roomy(m)
		sent = append(sent, m)
		was := wide(m)
		if e := n.Send(m); e != api.OK {
			t.Fatal(e)
		}
		if wide(m) != was {
			t.Fatalf("Send changed what was handed in: %s", wide(m))
		}
	}
	was := wideAll(sent)
	for i := range list {
		if e := n.Double(i); e != api.OK {
			t.Fatal(e)
		}
		m, e := n.Take(len(list))
		if e != api.OK {
			t.Fatal(e)
		}
		spoil(m)
		m, _ = n.At(i)
		spoil(m)
	}
	for _, m := range n.All() {
		spoil(m)
	}
	if wideAll(sent) != was {
		t.Fatal("what was handed in was changed by what was done with answers")
	}
	for _, m := range sent {
		spoil(m)
	}
	want(t, n, list, "what was sent was changed")
}

// P6.1: what a refused Send was handed is left as it was too.
func TestRefusedIsLeft(t *testing.T) {
	for _, count := range []int{0, 400} {
		n := filled(t, count)
		for i, m := range append(noMessages(), firstOf(14)...) {
			m = roomy(m)
			was := wide(m)
			e := n.Send(m)
			if wide(m) != was {
				t.Fatalf("row %d: Send changed what it was handed", i)
			}
			spoil(m)
			if e == api.OK {
				if e := n.Drop(count); e != api.OK {
					t.Fatal(e)
				}
			}
		}
		want(t, n, firstOf(count), "refused")
	}
}

// P6.1: what is told is a copy: changed, it changes neither the bag nor what
// was told before or is told later.
func TestToldIsCopied(t *testing.T) {
	n, list := filled(t, 28), firstOf(28)
	before := n.All()
	var at []api.Msg
	for i := range list {
		m, _ := n.At(i)
		at = append(at, m)
	}
	wasAll, wasAt := wideAll(before), wideAll(at)
	for i := range list {
		m, _ := n.At(i)
		spoil(m)
		want(t, n, list, "what At told was changed")
	}
	all := n.All()
	for i, m := range all {
		spoil(m)
		reach(all)[i] = api.Msg{Kind: 99}
	}
	want(t, n, list, "what All told was changed")
	if wideAll(before) != wasAll || wideAll(at) != wasAt {
		t.Fatal("what was told before was changed")
	}
	for _, m := range slices.Concat(before, at) {
		spoil(m)
	}
	want(t, n, list, "what was told before was changed by the caller")
}

// P6.1: within All each message has lists of its own.
func TestAllSharesNothing(t *testing.T) {
	n := filled(t, 28)
	for i := range 28 {
		if e := n.Double(i); e != api.OK {
			t.Fatal(e)
		}
	}
	list := slices.Concat(firstOf(28), firstOf(28))
	for i := range list {
		all := n.All()
		spoil(all[i])
		for j, m := range all {
			if j != i && !alike(m, list[j]) {
				t.Fatalf("%d was changed, and %d with it", i, j)
			}
		}
	}
	all := n.All()
	_ = append(all[:3], api.Msg{Kind: 99})
	want(t, n, list, "All was written over")
}

// P6.1: what is taken is the caller's: neither the bag nor an answer has it.
func TestTakenIsCopied(t *testing.T) {
	for i := range 28 {
		n, list := filled(t, 28), firstOf(28)
		told, all := at(t, n, i), n.All()
		m, e := n.Take(i)
		if e != api.OK {
			t.Fatal(e)
		}
		was := wide(m)
		spoil(told)
		for _, x := range all {
			spoil(x)
		}
		if wide(m) != was || !alike(m, list[i]) {
			t.Fatalf("place %d: what was told is shared with what was taken", i)
		}
		// The room that it left in the bag is used again.
		for j := range 5 {
			if e := n.Send(nth(60 + j)); e != api.OK {
				t.Fatal(e)
			}
			list = append(list, nth(60+j))
		}
		if wide(m) != was {
			t.Fatalf("place %d: what was taken was written over", i)
		}
		spoil(m)
		want(t, n, without(list, i), "what was taken was changed")
	}
}

func at(t *testing.T, n *Net, i int) api.Msg {
	t.Helper()
	m, ok := n.At(i)
	if !ok {
		t.Fatalf("At(%d) of %d: nothing", i, n.Len())
	}
	return m
}

// P6.1: a doubled message shares no list with the first one, whichever goes
// out first and is changed.
func TestDoubledSharesNothing(t *testing.T) {
	for i := range 14 {
		for _, out := range []int{i, 14} {
			n := filled(t, 14)
			if e := n.Double(i); e != api.OK {
				t.Fatal(e)
			}
			list := append(firstOf(14), nth(i))
			m, e := n.Take(out)
			if e != api.OK {
				t.Fatal(e)
			}
			spoil(m)
			want(t, n, without(list, out), "one of two was changed")
		}
	}
}

// P6.1: the bag itself has every list once: answers of it can't be touched
// by another answer, but neither may two of its messages share.
func TestBagSharesNothing(t *testing.T) {
	m, l := plain(api.MNewView, 7), plain(api.MVote, 7)
	n := New()
	for range 2 {
		n.Send(m)
		n.Send(l)
	}
	for i := range 4 {
		if e := n.Double(i); e != api.OK {
			t.Fatal(e)
		}
	}
	list := []api.Msg{m, l, m, l, m, l, m, l}
	for len(list) > 0 {
		x, e := n.Take(len(list) / 2)
		if e != api.OK {
			t.Fatal(e)
		}
		spoil(x)
		list = without(list, len(list)/2)
		want(t, n, list, "one of eight was changed")
	}
}

// P6.1: what shares its lists when it is sent doesn't when it is told.
func TestListsWithinOne(t *testing.T) {
	entries := []api.Entry{{Seq: 5, View: 1, Req: put(1, 2)}, {Seq: 6}}
	marks := []api.Mark{{Seq: 4, Root: 5}}
	of := func(from uint8) api.Vote {
		return api.Vote{From: from, Epoch: 7, View: 3, Marks: marks, P: entries, Q: entries}
	}
	newView := api.Msg{Kind: api.MNewView, From: 2, To: 1, Epoch: 7, View: 3, Votes: []api.Vote{of(0), of(1), of(2)}}
	cast := api.Msg{Kind: api.MVote, From: 2, To: 1, Epoch: 7, Vote: of(2)}
	n := New()
	for _, m := range []api.Msg{newView, cast} {
		if e := n.Send(m); e != api.OK {
			t.Fatal(e)
		}
	}
	all := n.All()
	taken, _ := n.Take(0)
	for i, m := range []api.Msg{all[0], all[1], taken, at(t, n, 0)} {
		var lists [][]api.Entry
		var others [][]api.Mark
		for _, v := range append(m.Votes, m.Vote) {
			lists, others = append(lists, v.P, v.Q), append(others, v.Marks)
		}
		for j, list := range lists {
			for k := range list {
				list[k].View += uint32(j + 1)
			}
		}
		for j, list := range others {
			for k := range list {
				list[k].Root += uint64(j + 1)
			}
		}
		for j, list := range lists {
			for k := range list {
				if list[k].View != entries[k].View+uint32(j+1) {
					t.Errorf("row %d: list %d shares its entries", i, j)
				}
			}
		}
		for j, list := range others {
			for k := range list {
				if list[k].Root != marks[k].Root+uint64(j+1) {
					t.Errorf("row %d: list %d shares its marks", i, j)
				}
			}
		}
	}
	want(t, n, []api.Msg{cast}, "behind that")
}

// book says once more what must be in a bag: by how often each message was
// sent, doubled and taken out, and by the order.
type book struct {
	sent, doubled, out map[string]int
	order              []string
}

func newBook() *book {
	return &book{sent: map[string]int{}, doubled: map[string]int{}, out: map[string]int{}}
}

// hold holds a bag against the book.
func (b *book) hold(t *testing.T, n *Net) {
	t.Helper()
	counted := map[string]int{}
	all := n.All()
	if len(all) != len(b.order) || n.Len() != len(all) {
		t.Fatalf("%d in it, Len %d; by the book %d", len(all), n.Len(), len(b.order))
	}
	for i, m := range all {
		if text(m) != b.order[i] {
			t.Fatalf("place %d: %s; by the book %s", i, text(m), b.order[i])
		}
		if !msg.Is(m) {
			t.Fatalf("place %d: no message: %s", i, text(m))
		}
		counted[text(m)]++
	}
	for m, count := range counted {
		if b.sent[m] == 0 {
			t.Fatalf("never sent: %s", m)
		}
		if count != b.sent[m]+b.doubled[m]-b.out[m] {
			t.Fatalf("%d times in it, sent %d, doubled %d, taken out %d: %s", count, b.sent[m], b.doubled[m], b.out[m], m)
		}
	}
	for m, count := range b.sent {
		if counted[m] == 0 && count+b.doubled[m] != b.out[m] {
			t.Fatalf("lost: %s", m)
		}
	}
}

func (b *book) has(i int) bool { return i >= 0 && i < len(b.order) }

func (b *book) add(m string) { b.order = append(b.order, m) }

func (b *book) remove(i int) string {
	m := b.order[i]
	b.out[m]++
	b.order = slices.Delete(b.order, i, i+1)
	return m
}

// send, take, drop, double do one call on both; whatever lists were handed in
// or answered are spoilt behind it.
func (b *book) send(t *testing.T, n *Net, m api.Msg) {
	t.Helper()
	told := text(m)
	expected := api.OK
	switch {
	case !msg.Is(m):
		expected = api.ErrForm
	case len(b.order) == 400:
		expected = api.ErrFull
	}
	if e := n.Send(m); e != expected {
		t.Fatalf("Send: %v, not %v: %s", e, expected, told)
	}
	spoil(m)
	if expected == api.OK {
		b.sent[told]++
		b.add(told)
	}
}

func (b *book) take(t *testing.T, n *Net, i int) {
	t.Helper()
	m, e := n.Take(i)
	if !b.has(i) {
		if e != api.ErrNone || !alike(m, api.Msg{}) {
			t.Fatalf("Take(%d) of %d: %s, %v", i, len(b.order), text(m), e)
		}
		return
	}
	if told := b.remove(i); e != api.OK || text(m) != told {
		t.Fatalf("Take(%d): %s, %v; by the book %s", i, text(m), e, told)
	}
	spoil(m)
}

func (b *book) drop(t *testing.T, n *Net, i int) {
	t.Helper()
	e := n.Drop(i)
	if b.has(i) != (e == api.OK) || b.has(i) == (e == api.ErrNone) {
		t.Fatalf("Drop(%d) of %d: %v", i, len(b.order), e)
	}
	if b.has(i) {
		b.remove(i)
	}
}

func (b *book) double(t *testing.T, n *Net, i int) {
	t.Helper()
	expected := api.OK
	switch {
	case !b.has(i):
		expected = api.ErrNone
	case len(b.order) == 400:
		expected = api.ErrFull
	}
	if e := n.Double(i); e != expected {
		t.Fatalf("Double(%d) of %d: %v, not %v", i, len(b.order), e, expected)
	}
	if expected == api.OK {
		b.doubled[b.order[i]]++
		b.add(b.order[i])
	}
}

func (b *book) at(t *testing.T, n *Net, i int) {
	t.Helper()
	m, ok := n.At(i)
	told := text(api.Msg{})
	if b.has(i) {
		told = b.order[i]
	}
	if ok != b.has(i) || text(m) != told {
		t.Fatalf("At(%d) of %d: %s, %v", i, len(b.order), text(m), ok)
	}
	spoil(m)
}

// drawn is a message, now and then what isn't one; few enough are unlike that
// the same come again.
func drawn(r *rand.Rand) api.Msg {
	if r.Intn(8) == 0 {
		list := noMessages()
		return list[r.Intn(len(list))]
	}
	m := plain(uint8(1+r.Intn(14)), uint8(1+r.Intn(3)))
	switch m.Kind {
	case api.MVote:
		m.Vote.Q = m.Vote.Q[:r.Intn(4)]
	case api.MNewView:
		m.Votes = m.Votes[r.Intn(4):]
	case api.MSums:
		m.Sums[r.Intn(8)] = r.Uint64()
	case api.MPage:
		m.Data = m.Data[:r.Intn(4)]
	}
	return roomy(m)
}

// drawnPlace is mostly one of the bag's.
func drawnPlace(r *rand.Rand, count int) int {
	if r.Intn(6) == 0 {
		list := nowhere(count)
		return list[r.Intn(len(list))]
	}
	return r.Intn(count + 1)
}

// P6.2: behind whatever row of calls, those that are refused among them, what
// is in the bag was sent, as often as by the book. The row swells and shrinks,
// so that the bag is full at times and empty at others.
func TestNothingElseComesOut(t *testing.T) {
	for seed := range int64(3) {
		r := rand.New(rand.NewSource(6 + seed))
		n, b := New(), newBook()
		full, empty := 0, 0
		for step := range 6000 {
			swells := step/1500%2 == 0
			i := drawnPlace(r, len(b.order))
			switch k := r.Intn(10); {
			case k < 1:
				b.at(t, n, i)
			case k < 5 && swells || k < 2:
				b.send(t, n, drawn(r))
			case k < 8 && swells || k < 3:
				b.double(t, n, i)
			case k < 9 && swells || k < 6:
				b.take(t, n, i)
			default:
				b.drop(t, n, i)
			}
			switch len(b.order) {
			case 400:
				full++
			case 0:
				empty++
			}
			if step%30 == 0 {
				b.hold(t, n)
			}
		}
		b.hold(t, n)
		if full < 20 || empty < 20 {
			t.Fatalf("full %d times, empty %d times: the row is too tame", full, empty)
		}
	}
}

// P6.2: what went out doesn't come again; it may be sent again.
func TestTakenIsGone(t *testing.T) {
	n, b := New(), newBook()
	for i := range 28 {
		b.send(t, n, nth(i))
	}
	for range 28 {
		b.take(t, n, 0)
		b.hold(t, n)
	}
	for range 3 {
		b.take(t, n, 0)
		b.drop(t, n, 0)
		b.double(t, n, 0)
		b.hold(t, n)
	}
	for i := range 28 {
		b.send(t, n, nth(i))
		b.hold(t, n)
	}
}
