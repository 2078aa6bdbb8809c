package know

import (
	"math/rand"
	"slices"
	"testing"

	"palisade/api"
	"palisade/msg"
)

func request(client uint8, ts uint32, kind, key uint8, val uint16) api.Request {
	return api.Request{Client: client, Ts: ts, Op: api.Op{Kind: kind, Key: key, Val: val}}
}

func put(client uint8, ts uint32) api.Request {
	return request(client, ts, api.OpPut, 3, 4)
}

// prepared and proposed are the requests of the lists P and Q of the vote of
// from: no two votes have one in common.
func prepared(from uint8) []api.Request {
	return []api.Request{put(1, 100+uint32(from)), put(2, 100+uint32(from))}
}

func proposed(from uint8) []api.Request {
	return []api.Request{put(3, 100+uint32(from)), put(4, 100+uint32(from))}
}

// vote has the null request in each of its lists too.
func vote(from, epoch uint8) api.Vote {
	p, q := prepared(from), proposed(from)
	return api.Vote{
		From: from, Epoch: epoch, View: 3, Low: 4,
		Marks: []api.Mark{{Seq: 4, Root: 5}, {Seq: 8, Root: 9}},
		P:     []api.Entry{{Seq: 5, View: 1, Req: p[0]}, {Seq: 6, View: 2}, {Seq: 7, View: 2, Req: p[1]}},
		Q:     []api.Entry{{Seq: 5, View: 1, Req: q[0]}, {Seq: 6, View: 2}, {Seq: 7, View: 2, Req: q[1]}},
	}
}

// plain is a message of each kind, of the replica and epoch that are told (a
// request: of client 3); each of its parts is unlike zero.
func plain(kind, from, epoch uint8) api.Msg {
	m := api.Msg{Kind: kind, From: from, To: 1, Epoch: epoch}
	switch kind {
	case api.MRequest:
		m.From, m.Epoch, m.Req = 13, 0, put(3, 1)
	case api.MPrePrepare, api.MPrepare, api.MCommit:
		m.View, m.Seq, m.Req = 6, 7, put(4, uint32(kind))
	case api.MCheckpoint:
		m.Seq, m.Root = 8, 9
	case api.MVote:
		m.Vote = vote(from, epoch)
	case api.MNewView:
		m.View, m.Votes = 3, []api.Vote{vote(0, 11), vote(1, 12), vote(3, 13)}
	case api.MNewKey, api.MQuery:
		m.Count = epoch
	case api.MEstimate:
		m.Count, m.Seq = 9, 12
	case api.MFetch:
		m.Seq, m.Page = 12, 6
	case api.MSums:
		m.Seq, m.Sums = 12, []uint64{1, 2, 3, 4, 5, 6, 7, 1<<64 - 1}
	case api.MPage:
		m.Seq, m.Page, m.Data = 12, 6, []byte("abc")
	case api.MReply:
		m.To, m.View, m.Req, m.Result = 12, 5, put(2, 9), 10
	}
	return m
}

func kinds() []uint8 {
	var all []uint8
	for k := uint8(api.MRequest); k <= api.MReply; k++ {
		all = append(all, k)
	}
	return all
}

// sendersKinds are the kinds that one makes who has the sender's key.
func sendersKinds() []uint8 {
	return slices.DeleteFunc(kinds(), func(k uint8) bool {
		return k == api.MRequest || k == api.MNewKey || k == api.MQuery
	})
}

// within are the requests of the plain message of a kind.
func within(kind, from uint8) []api.Request {
	both := func(from uint8) []api.Request { return slices.Concat(prepared(from), proposed(from)) }
	switch kind {
	case api.MRequest:
		return []api.Request{put(3, 1)}
	case api.MPrePrepare, api.MPrepare, api.MCommit:
		return []api.Request{put(4, uint32(kind))}
	case api.MVote:
		return both(from)
	case api.MNewView:
		return slices.Concat(both(0), both(1), both(3))
	case api.MReply:
		return []api.Request{put(2, 9)}
	}
	return nil
}

// tell makes requests known, by messages of clients alone.
func tell(k *Know, list ...api.Request) {
	for _, r := range list {
		k.See(api.Msg{Kind: api.MRequest, From: 10 + r.Client, Req: r})
	}
}

// tellAll makes the requests of all plain messages known.
func tellAll(k *Know) {
	for _, kind := range kinds() {
		for from := range uint8(api.Replicas) {
			tell(k, within(kind, from)...)
		}
	}
}

// learnAll hands in every key that can be written, also those of nobody.
func learnAll(k *Know) {
	for owner := range 256 {
		for epoch := range 256 {
			k.Learn(api.Key{Owner: uint8(owner), Epoch: uint8(epoch)})
		}
	}
}

// allKeys are those that learnAll leaves.
func allKeys() []api.Key {
	var all []api.Key
	for owner := range uint8(4) {
		for epoch := uint8(1); epoch <= 200; epoch++ {
			all = append(all, api.Key{Owner: owner, Epoch: epoch})
		}
	}
	return all
}

func want(t *testing.T, k *Know, m api.Msg, want api.Errno, what string) {
	t.Helper()
	if e := k.Can(m); e != want {
		t.Errorf("%s: kind %d: %v, not %v", what, m.Kind, e, want)
	}
}

// requestTurns change one word of a request.
func requestTurns() []func(*api.Request) {
	return []func(*api.Request){
		func(r *api.Request) { r.Client ^= 5 },
		func(r *api.Request) { r.Ts++ },
		func(r *api.Request) { r.Ts += 1 << 31 },
		func(r *api.Request) { r.Op.Kind = api.OpAdd },
		func(r *api.Request) { r.Op.Key++ },
		func(r *api.Request) { r.Op.Val++ },
		func(r *api.Request) { r.Op.Val += 1 << 15 },
	}
}

// voteTurns change one word of a vote, or one entry of a list. All are votes
// still, and none has a request that the vote hadn't.
func voteTurns() []func(*api.Vote) {
	return []func(*api.Vote){
		func(v *api.Vote) { v.From ^= 1 },
		func(v *api.Vote) { v.Epoch++ },
		func(v *api.Vote) { v.View++ },
		func(v *api.Vote) { v.Low++ },
		func(v *api.Vote) { v.Low += 1 << 16 },
		func(v *api.Vote) { v.Marks[0].Seq-- },
		func(v *api.Vote) { v.Marks[1].Seq++ },
		func(v *api.Vote) { v.Marks[0].Root++ },
		func(v *api.Vote) { v.Marks[1].Root += 1 << 63 },
		func(v *api.Vote) { v.Marks = v.Marks[:1] },
		func(v *api.Vote) { v.Marks = v.Marks[1:] },
		func(v *api.Vote) { v.Marks = append(v.Marks, api.Mark{Seq: 12}) },
		func(v *api.Vote) { v.Marks = nil },
		func(v *api.Vote) { v.P[0].Seq-- },
		func(v *api.Vote) { v.P[2].Seq++ },
		func(v *api.Vote) { v.P[1].View++ },
		func(v *api.Vote) { v.P[0].Req = v.P[2].Req },
		func(v *api.Vote) { v.P[2].Req = api.Request{} },
		func(v *api.Vote) { v.P = v.P[:2] },
		func(v *api.Vote) { v.P = v.P[1:] },
		func(v *api.Vote) { v.P = append(v.P, api.Entry{Seq: 8}) },
		func(v *api.Vote) { v.P = nil },
		func(v *api.Vote) { v.Q[0].Seq-- },
		func(v *api.Vote) { v.Q[2].Seq++ },
		func(v *api.Vote) { v.Q[1].View++ },
		func(v *api.Vote) { v.Q[0].Req = v.Q[2].Req },
		func(v *api.Vote) { v.Q[2].Req = api.Request{} },
		func(v *api.Vote) { v.Q = v.Q[:2] },
		func(v *api.Vote) { v.Q = v.Q[1:] },
		func(v *api.Vote) { v.Q = append(v.Q, api.Entry{Seq: 8}) },
		func(v *api.Vote) { v.Q = nil },
		func(v *api.Vote) { v.P, v.Q = v.Q, v.P },
		func(v *api.Vote) { v.P, v.Q = nil, nil },
	}
}

// turns change one word of a message, and what must change with it.
func turns() []func(*api.Msg) {
	all := []func(*api.Msg){
		func(m *api.Msg) { m.Kind++ },
		func(m *api.Msg) { m.From ^= 1 },
		func(m *api.Msg) { m.From ^= 1; m.Vote.From ^= 1 },
		func(m *api.Msg) { m.From--; m.Req.Client-- },
		func(m *api.Msg) { m.To ^= 1 },
		func(m *api.Msg) { m.To = 0 },
		func(m *api.Msg) { m.To--; m.Req.Client-- },
		func(m *api.Msg) { m.Epoch++ },
		func(m *api.Msg) { m.Epoch++; m.Count++ },
		func(m *api.Msg) { m.Epoch++; m.Vote.Epoch++ },
		func(m *api.Msg) { m.View++ },
		func(m *api.Msg) {
			m.View++
			for i := range m.Votes {
				m.Votes[i].View++
			}
		},
		func(m *api.Msg) { m.Seq++ },
		func(m *api.Msg) { m.Seq += 1 << 16 },
		func(m *api.Msg) { m.Root++ },
		func(m *api.Msg) { m.Count++ },
		func(m *api.Msg) { m.Page++ },
		func(m *api.Msg) { m.Result++ },
		func(m *api.Msg) { m.Votes = nil },
		func(m *api.Msg) { m.Votes = slices.Clone(m.Votes)[:max(0, len(m.Votes)-1)] },
		func(m *api.Msg) { m.Data = append(m.Data, 0) },
		func(m *api.Msg) { m.Data = nil },
	}
	for i := range api.Pages {
		all = append(all, func(m *api.Msg) {
			if len(m.Sums) == api.Pages {
				m.Sums[i]++
			}
		})
	}
	for i := range len("abc") {
		all = append(all, func(m *api.Msg) {
			if len(m.Data) > i {
				m.Data[i]++
			}
		})
	}
	for _, turn := range requestTurns() {
		all = append(all, func(m *api.Msg) { turn(&m.Req) })
	}
	for _, turn := range voteTurns() {
		all = append(all, func(m *api.Msg) {
			if m.Kind == api.MVote {
				turn(&m.Vote)
			}
		})
		for i := range 3 {
			all = append(all, func(m *api.Msg) {
				if len(m.Votes) == 3 {
					turn(&m.Votes[i])
				}
			})
		}
	}
	return all
}

// turned are messages that differ from the plain one of a kind in one word.
func turned(t *testing.T, kind, from, epoch uint8) []api.Msg {
	t.Helper()
	var all []api.Msg
	for _, turn := range turns() {
		m := plain(kind, from, epoch)
		turn(&m)
		if msg.Is(m) && !msg.Same(m, plain(kind, from, epoch)) {
			all = append(all, m)
		}
	}
	if len(all) < 3 {
		t.Fatalf("kind %d: only %d others", kind, len(all))
	}
	return all
}

// noMessages are alike to messages, but none.
func noMessages() []api.Msg {
	all := []api.Msg{{}, {Kind: 77}, {Kind: api.MReply + 1, From: 1, To: 2, Epoch: 1}}
	for _, kind := range kinds() {
		for _, spoil := range []func(*api.Msg){
			func(m *api.Msg) { m.Kind = 0 },
			func(m *api.Msg) { m.Kind = 15 },
			func(m *api.Msg) { m.From = 4 },
			func(m *api.Msg) { m.To = 5 },
			func(m *api.Msg) { m.Epoch = 201 },
			func(m *api.Msg) { m.View = api.MaxView + 1 },
			func(m *api.Msg) { m.Seq = api.MaxSeq + 1 },
			func(m *api.Msg) { m.Page = api.Pages + 1 },
			func(m *api.Msg) { m.Req = request(1, 1, api.OpPut, api.Keys, 0) },
			func(m *api.Msg) { m.Req = request(4, 0, api.OpPut, 1, 0) },
			func(m *api.Msg) { m.Sums = []uint64{1} },
			func(m *api.Msg) { m.Data = make([]byte, api.MaxPage+1) },
			func(m *api.Msg) { m.Votes = append(m.Votes, vote(0, 1)) },
			func(m *api.Msg) { m.Votes = append(m.Votes, vote(3, 1)) },
			func(m *api.Msg) { m.Vote = vote(0, 1) },
		} {
			m := plain(kind, 2, 7)
			spoil(&m)
			all = append(all, m)
		}
	}
	return all
}

// P4.1
func TestNothingAtFirst(t *testing.T) {
	k := New()
	if k.Len() != 0 || len(k.Keys()) != 0 || !k.Knows(api.Request{}) || k.Knows(put(1, 1)) {
		t.Error("something")
	}
	for owner := range 256 {
		for epoch := range 256 {
			if k.Has(api.Key{Owner: uint8(owner), Epoch: uint8(epoch)}) {
				t.Errorf("key %d, %d", owner, epoch)
			}
		}
	}
}

// P4.1: one message twice is one, two that differ in one word are two.
func TestUnlikeMessagesAreCounted(t *testing.T) {
	all := New()
	var seen []api.Msg
	see := func(m api.Msg) {
		all.See(m)
		if !slices.ContainsFunc(seen, func(s api.Msg) bool { return msg.Same(s, m) }) {
			seen = append(seen, m)
		}
		if all.Len() != len(seen) {
			t.Fatalf("kind %d: %d seen, not %d", m.Kind, all.Len(), len(seen))
		}
	}
	for _, kind := range kinds() {
		for i, other := range turned(t, kind, 2, 7) {
			k := New()
			k.See(plain(kind, 2, 7))
			k.See(plain(kind, 2, 7))
			if k.Len() != 1 {
				t.Errorf("kind %d: %d of one", kind, k.Len())
			}
			want(t, k, other, api.ErrDerive, "the other")
			k.See(other)
			k.See(plain(kind, 2, 7))
			if k.Len() != 2 {
				t.Errorf("kind %d: row %d: %d of two", kind, i, k.Len())
			}
			want(t, k, other, api.OK, "both")
			want(t, k, plain(kind, 2, 7), api.OK, "both")
			see(plain(kind, 2, 7))
			see(other)
		}
	}
	for _, m := range seen {
		see(m)
		want(t, all, m, api.OK, "all")
	}
}

// P4.1: a nil list and an empty one are the same.
func TestEmptyLists(t *testing.T) {
	none := api.Msg{Kind: api.MVote, From: 1, To: 2, Epoch: 3, Vote: api.Vote{From: 1, Epoch: 3, View: 1}}
	empty := none
	empty.Vote.Marks, empty.Vote.P, empty.Vote.Q = []api.Mark{}, []api.Entry{}, make([]api.Entry, 0, 4)
	empty.Votes, empty.Sums, empty.Data = []api.Vote{}, []uint64{}, []byte{}
	for _, pair := range [][2]api.Msg{{none, empty}, {empty, none}} {
		k := New()
		k.See(pair[0])
		want(t, k, pair[1], api.OK, "empty lists")
		k.See(pair[1])
		if k.Len() != 1 {
			t.Errorf("%d of one", k.Len())
		}
		k.Learn(api.Key{Owner: 0, Epoch: 1})
		view := api.Msg{Kind: api.MNewView, From: 0, Epoch: 1, View: 1, Votes: []api.Vote{pair[1].Vote}}
		want(t, k, view, api.OK, "a vote with empty lists")
	}
}

// P4.1: what isn't a message leaves nothing behind, whatever it carries.
func TestNoMessageIsSeen(t *testing.T) {
	for i, m := range noMessages() {
		k := New()
		k.See(m)
		if k.Len() != 0 || len(k.Keys()) != 0 || k.Knows(m.Req) != (m.Req == api.Request{}) {
			t.Errorf("row %d: seen", i)
		}
		for from := range uint8(api.Replicas) {
			if k.Knows(prepared(from)[0]) || k.Knows(proposed(from)[0]) {
				t.Errorf("row %d: a vote's request is known", i)
			}
		}
		tellAll(k)
		k.Learn(api.Key{Owner: 2, Epoch: 7})
		for _, v := range append(slices.Clone(m.Votes), m.Vote) {
			view := api.Msg{Kind: api.MNewView, From: 2, Epoch: 7, View: v.View, Votes: []api.Vote{v}}
			if msg.Is(view) && (api.Key{Owner: v.From, Epoch: v.Epoch}) != (api.Key{Owner: 2, Epoch: 7}) {
				want(t, k, view, api.ErrDerive, "a vote of no message")
			}
		}
	}
}

// P4.1: the requests that are known behind each kind: these, and no others.
func TestRequestsBehindMessages(t *testing.T) {
	var all []api.Request
	for _, kind := range kinds() {
		for from := range uint8(api.Replicas) {
			all = append(all, within(kind, from)...)
		}
	}
	for _, kind := range kinds() {
		k := New()
		k.See(plain(kind, 2, 7))
		for _, r := range all {
			if k.Knows(r) != slices.Contains(within(kind, 2), r) {
				t.Errorf("kind %d: %s: %v", kind, msg.Text(r), k.Knows(r))
			}
		}
	}
}

// P4.1: the greatest lists that a vote may have, and the most votes.
func TestRequestsOfFullVotes(t *testing.T) {
	m := api.Msg{Kind: api.MNewView, From: 1, Epoch: 1, View: 1}
	for from := range uint8(api.Replicas) {
		v := api.Vote{From: from, Epoch: api.MaxEpoch, View: 1}
		for i := range uint32(api.MaxList) {
			v.P = append(v.P, api.Entry{Seq: i + 1, Req: put(from+1, 2*i+1)})
			v.Q = append(v.Q, api.Entry{Seq: i + 1, Req: put(from+1, 2*i+2)})
		}
		m.Votes = append(m.Votes, v)
	}
	k := New()
	k.See(m)
	for client := uint8(1); client <= api.Clients; client++ {
		for ts := uint32(0); ts <= 2*api.MaxList+1; ts++ {
			if k.Knows(put(client, ts)) != (ts >= 1 && ts <= 2*api.MaxList) {
				t.Errorf("%s: %v", msg.Text(put(client, ts)), k.Knows(put(client, ts)))
			}
		}
	}
}

// P4.1: the null request is known ahead of everything, and adds none.
func TestNullRequestAddsNone(t *testing.T) {
	k := New()
	for _, kind := range []uint8{api.MPrePrepare, api.MPrepare, api.MCommit} {
		k.See(api.Msg{Kind: kind, From: 1, To: 2, Epoch: 1, Seq: 1})
	}
	k.See(plain(api.MCheckpoint, 2, 7))
	if k.Len() != 4 || !k.Knows(api.Request{}) {
		t.Error("null")
	}
	for _, r := range []api.Request{put(1, 1), {Client: 1}, {Ts: 1}, request(0, 0, 1, 0, 0), request(0, 0, 0, 1, 0), request(0, 0, 0, 0, 1)} {
		if k.Knows(r) {
			t.Errorf("%s is known", msg.Text(r))
		}
	}
}

// P4.1
func TestRequestsUnlikeInOneWord(t *testing.T) {
	for _, kind := range kinds() {
		k := New()
		k.See(plain(kind, 2, 7))
		for _, r := range append(within(kind, 2), api.Request{}) {
			if !k.Knows(r) {
				t.Errorf("kind %d: %s isn't known", kind, msg.Text(r))
			}
			for i, turn := range requestTurns() {
				other := r
				turn(&other)
				if !slices.Contains(within(kind, 2), other) && k.Knows(other) {
					t.Errorf("kind %d: row %d: %s is known", kind, i, msg.Text(other))
				}
			}
		}
	}
}

// P4.1: each owner and epoch at its bounds and beyond.
func TestBoundsOfKeys(t *testing.T) {
	for owner := range 256 {
		for epoch := range 256 {
			k := New()
			key := api.Key{Owner: uint8(owner), Epoch: uint8(epoch)}
			k.Learn(key)
			is := owner < 4 && epoch >= 1 && epoch <= 200
			if k.Has(key) != is || slices.Contains(k.Keys(), key) != is || len(k.Keys()) > 1 || k.Len() != 0 {
				t.Errorf("key %d, %d: %v, %v", owner, epoch, k.Has(key), k.Keys())
			}
		}
	}
}

// P4.1: one key is no other owner's, and of no other epoch.
func TestOneKey(t *testing.T) {
	for _, key := range []api.Key{{Owner: 0, Epoch: 1}, {Owner: 0, Epoch: 200}, {Owner: 1, Epoch: 2}, {Owner: 2, Epoch: 1}, {Owner: 3, Epoch: 1}, {Owner: 3, Epoch: 200}} {
		k := New()
		k.Learn(key)
		for owner := range 256 {
			for epoch := range 256 {
				other := api.Key{Owner: uint8(owner), Epoch: uint8(epoch)}
				if k.Has(other) != (other == key) {
					t.Errorf("of %v: %v", key, other)
				}
			}
		}
	}
}

// P4.1: by Owner, then Epoch, each once, whatever the order of learning.
func TestOrderOfKeys(t *testing.T) {
	k := New()
	learnAll(k)
	learnAll(k)
	if !slices.Equal(k.Keys(), allKeys()) {
		t.Error("not all")
	}
	r := rand.New(rand.NewSource(1))
	for n := range 60 {
		list := allKeys()
		r.Shuffle(len(list), func(i, j int) { list[i], list[j] = list[j], list[i] })
		list = list[:n]
		k := New()
		for _, key := range append(list, list...) {
			k.Learn(key)
		}
		r.Shuffle(n, func(i, j int) { list[i], list[j] = list[j], list[i] })
		for _, key := range list {
			k.Learn(key)
		}
		var sorted []api.Key
		for _, key := range allKeys() {
			if slices.Contains(list, key) {
				sorted = append(sorted, key)
			}
		}
		for range 3 {
			if !slices.Equal(k.Keys(), sorted) {
				t.Errorf("%v, not %v", k.Keys(), sorted)
			}
		}
	}
	k = New()
	for _, key := range []api.Key{{Owner: 2, Epoch: 1}, {Owner: 1, Epoch: 9}, {Owner: 1, Epoch: 200}, {Owner: 0, Epoch: 100}} {
		k.Learn(key)
	}
	if !slices.Equal(k.Keys(), []api.Key{{Owner: 0, Epoch: 100}, {Owner: 1, Epoch: 9}, {Owner: 1, Epoch: 200}, {Owner: 2, Epoch: 1}}) {
		t.Errorf("%v", k.Keys())
	}
}

// wipe writes over a list, and over the spare room behind it.
func wipe[T any](list []T, with T) {
	list = list[:cap(list)]
	for i := range list {
		list[i] = with
	}
}

// P4.1: an own copy each time.
func TestKeysAreNew(t *testing.T) {
	k := New()
	for n := range 20 {
		k.Learn(api.Key{Owner: 3, Epoch: uint8(n + 1)})
		first, second := k.Keys(), k.Keys()
		wipe(first, api.Key{Owner: 9})
		if len(second) != n+1 || second[0] != (api.Key{Owner: 3, Epoch: 1}) || !slices.Equal(k.Keys(), second) || k.Has(api.Key{Owner: 9}) {
			t.Errorf("%v, %v", second, k.Keys())
		}
	}
}

// spoil writes over all that hangs on m.
func spoil(m *api.Msg) {
	wipe(m.Data, 0xaa)
	wipe(m.Sums, 0xaa)
	for i := range m.Votes {
		spoilVote(&m.Votes[i])
	}
	wipe(m.Votes, api.Vote{From: 0xaa})
	spoilVote(&m.Vote)
}

func spoilVote(v *api.Vote) {
	wipe(v.Marks, api.Mark{Seq: 0xaa})
	wipe(v.P, api.Entry{Seq: 0xaa})
	wipe(v.Q, api.Entry{Seq: 0xaa})
}

// roomy is a list with another element behind it, which nobody may touch.
func roomy[T any](list []T, behind T) []T {
	wide := append(slices.Clone(list), behind)
	return wide[:len(list)]
}

func roomyVote(v api.Vote) api.Vote {
	v.Marks = roomy(v.Marks, api.Mark{Seq: 77})
	v.P, v.Q = roomy(v.P, api.Entry{Seq: 77}), roomy(v.Q, api.Entry{Seq: 77})
	return v
}

func roomyMsg(kind uint8) api.Msg {
	m := plain(kind, 2, 7)
	m.Data, m.Sums = roomy(m.Data, 77), roomy(m.Sums, 77)
	m.Vote = roomyVote(m.Vote)
	for i := range m.Votes {
		m.Votes[i] = roomyVote(m.Votes[i])
	}
	m.Votes = roomy(m.Votes, api.Vote{View: 77})
	return m
}

func roomLeft(m api.Msg) bool {
	left := m.Data[:len(m.Data)+1][len(m.Data)] == 77 && m.Sums[:len(m.Sums)+1][len(m.Sums)] == 77 &&
		m.Votes[:len(m.Votes)+1][len(m.Votes)].View == 77
	for _, v := range append(slices.Clone(m.Votes), m.Vote) {
		left = left && v.Marks[:len(v.Marks)+1][len(v.Marks)].Seq == 77 &&
			v.P[:len(v.P)+1][len(v.P)].Seq == 77 && v.Q[:len(v.Q)+1][len(v.Q)].Seq == 77
	}
	return left
}

// P4.1: what is handed in isn't changed, and turned later it changes nothing.
func TestArgumentsAreLeft(t *testing.T) {
	for _, kind := range kinds() {
		k := New()
		m := roomyMsg(kind)
		k.Can(m)
		k.See(m)
		k.Can(m)
		if !msg.Same(m, plain(kind, 2, 7)) || !roomLeft(m) {
			t.Errorf("kind %d: changed", kind)
		}
		spoil(&m)
		want(t, k, plain(kind, 2, 7), api.OK, "turned later")
		for _, r := range within(kind, 2) {
			if !k.Knows(r) {
				t.Errorf("kind %d: %s isn't known any more", kind, msg.Text(r))
			}
		}
		k.See(plain(kind, 2, 7))
		if k.Len() != 1 {
			t.Errorf("kind %d: %d of one", kind, k.Len())
		}
		if kind == api.MVote || kind == api.MNewView {
			v := plain(kind, 2, 7).Vote
			if kind == api.MNewView {
				v = plain(kind, 2, 7).Votes[1]
			}
			k.Learn(api.Key{Owner: 3, Epoch: 3})
			want(t, k, api.Msg{Kind: api.MNewView, From: 3, Epoch: 3, View: 3, Votes: []api.Vote{v}}, api.OK, "a vote turned later")
		}
	}
	k := New()
	m := plain(api.MPage, 2, 7)
	k.See(m)
	m.Data[1]++
	want(t, k, m, api.ErrDerive, "turned behind See")
}

// P4.1: one adversary's knowledge is no other one's.
func TestApart(t *testing.T) {
	one, two := New(), New()
	tellAll(one)
	learnAll(one)
	one.See(plain(api.MNewKey, 2, 7))
	if two.Len() != 0 || len(two.Keys()) != 0 || two.Has(api.Key{Owner: 2, Epoch: 7}) || two.Knows(put(3, 1)) {
		t.Error("told to the other one")
	}
	want(t, two, plain(api.MNewKey, 2, 7), api.ErrDerive, "the other one")
	want(t, two, plain(api.MCheckpoint, 2, 7), api.ErrDerive, "the other one")
}

// P4.2: what is no message is so whatever is known, also when it was handed in.
func TestCanOfNoMessage(t *testing.T) {
	nothing, all := New(), New()
	tellAll(all)
	learnAll(all)
	for _, kind := range kinds() {
		all.See(plain(kind, 2, 7))
	}
	for _, m := range noMessages() {
		if msg.Is(m) {
			t.Fatalf("kind %d: a message", m.Kind)
		}
		want(t, nothing, m, api.ErrForm, "nothing is known")
		want(t, all, m, api.ErrForm, "all is known")
		all.See(m)
		want(t, all, m, api.ErrForm, "handed in")
	}
}

// P4.2: what was seen needs no key, of every kind; nothing else does.
func TestCanOfSeen(t *testing.T) {
	for _, kind := range kinds() {
		k := New()
		want(t, k, plain(kind, 2, 7), api.ErrDerive, "not seen")
		k.See(plain(kind, 2, 7))
		for _, other := range kinds() {
			if other == kind {
				want(t, k, plain(other, 2, 7), api.OK, "seen")
			} else {
				want(t, k, plain(other, 2, 7), api.ErrDerive, "another kind was seen")
			}
		}
		if len(k.Keys()) != 0 {
			t.Errorf("kind %d: keys %v", kind, k.Keys())
		}
	}
}

// P4.2: what wasn't seen needs the key of its sender and epoch, no other one.
func TestCanWithKeys(t *testing.T) {
	for _, kind := range sendersKinds() {
		for _, self := range []api.Key{{Owner: 2, Epoch: 7}, {Owner: 0, Epoch: 1}, {Owner: 3, Epoch: 200}} {
			m := plain(kind, self.Owner, self.Epoch)
			if kind == api.MNewView {
				m.Votes = nil
			}
			k := New()
			tellAll(k)
			want(t, k, m, api.ErrDerive, "no key")
			for _, key := range allKeys() {
				if key != self {
					k.Learn(key)
				}
			}
			want(t, k, m, api.ErrDerive, "all other keys")
			k.Learn(self)
			want(t, k, m, api.OK, "all keys")
			k = New()
			tellAll(k)
			k.Learn(api.Key{Owner: self.Owner ^ 1, Epoch: self.Epoch})
			want(t, k, m, api.ErrDerive, "another owner's")
			k.Learn(api.Key{Owner: self.Owner, Epoch: self.Epoch ^ 2})
			want(t, k, m, api.ErrDerive, "another epoch's")
			k.Learn(self)
			want(t, k, m, api.OK, "its key")
			m.To ^= 2
			if kind != api.MReply {
				want(t, k, m, api.OK, "to another one")
			}
		}
	}
}

// P4.2: a client's messages are only told on, whatever keys are there.
func TestCanOfClients(t *testing.T) {
	k := New()
	learnAll(k)
	tellAll(k)
	for client := uint8(1); client <= api.Clients; client++ {
		for to := range uint8(api.Replicas) {
			m := api.Msg{Kind: api.MRequest, From: 10 + client, To: to, Req: put(client, 55)}
			want(t, k, m, api.ErrDerive, "not seen")
			if k.Knows(m.Req) != (to > 0) {
				t.Errorf("client %d: known: %v", client, k.Knows(m.Req))
			}
			k.See(m)
			want(t, k, m, api.OK, "seen")
		}
		want(t, k, api.Msg{Kind: api.MRequest, From: 10 + client, Req: put(client, 56)}, api.ErrDerive, "another request")
	}
}

// P4.2: a coprocessor's messages are only told on, the right key or not.
func TestCanOfCoprocessors(t *testing.T) {
	for _, kind := range []uint8{api.MNewKey, api.MQuery} {
		k := New()
		k.Learn(api.Key{Owner: 2, Epoch: 7})
		want(t, k, plain(kind, 2, 7), api.ErrDerive, "its key")
		learnAll(k)
		tellAll(k)
		want(t, k, plain(kind, 2, 7), api.ErrDerive, "all keys")
		k.See(plain(kind, 2, 7))
		want(t, k, plain(kind, 2, 7), api.OK, "seen")
		for _, m := range turned(t, kind, 2, 7) {
			if !slices.Contains(sendersKinds(), m.Kind) {
				want(t, k, m, api.ErrDerive, "seen but for one word")
			}
		}
	}
}

// P4.2: each request within must be known, be it first or last of its list.
func TestCanNeedsRequests(t *testing.T) {
	for _, kind := range sendersKinds() {
		need := within(kind, 2)
		for i, left := range need {
			k := New()
			learnAll(k)
			want(t, k, plain(kind, 2, 7), api.ErrDerive, "no request is known")
			for j, r := range need {
				if j != i {
					tell(k, r)
				}
			}
			want(t, k, plain(kind, 2, 7), api.ErrDerive, msg.Text(left)+" isn't known")
			for _, turn := range requestTurns() {
				other := left
				turn(&other)
				if msg.IsReq(other) {
					tell(k, other)
				}
			}
			want(t, k, plain(kind, 2, 7), api.ErrDerive, msg.Text(left)+" is known but for one word")
			tell(k, left)
			want(t, k, plain(kind, 2, 7), api.OK, "all are known")
		}
		if len(need) == 0 {
			k := New()
			k.Learn(api.Key{Owner: 2, Epoch: 7})
			want(t, k, plain(kind, 2, 7), api.OK, "no request within")
		}
	}
}

// P4.2: the null request is known without having been seen.
func TestCanWithNullRequests(t *testing.T) {
	k := New()
	k.Learn(api.Key{Owner: 2, Epoch: 7})
	for _, kind := range []uint8{api.MPrePrepare, api.MPrepare, api.MCommit} {
		want(t, k, api.Msg{Kind: kind, From: 2, Epoch: 7, Seq: 1}, api.OK, "null")
	}
	v := api.Vote{From: 2, Epoch: 7, View: 1, P: []api.Entry{{Seq: 1}}, Q: []api.Entry{{Seq: 1}}}
	want(t, k, api.Msg{Kind: api.MVote, From: 2, Epoch: 7, Vote: v}, api.OK, "null in a vote")
	want(t, k, api.Msg{Kind: api.MNewView, From: 2, Epoch: 7, View: 1, Votes: []api.Vote{v}}, api.OK, "null in a new view")
	if k.Len() != 0 {
		t.Error("seen")
	}
}

// P4.2: a request is as good from whichever message it was seen in.
func TestRequestsFromAnyMessage(t *testing.T) {
	for _, kind := range kinds() {
		for _, r := range within(kind, 2) {
			m := api.Msg{Kind: api.MCommit, From: 1, Epoch: 5, Seq: 9, Req: r}
			k := New()
			k.Learn(api.Key{Owner: 1, Epoch: 5})
			want(t, k, m, api.ErrDerive, "not yet seen")
			k.See(plain(kind, 2, 7))
			want(t, k, m, api.OK, "seen")
		}
	}
}

func newView(votes ...api.Vote) api.Msg {
	return api.Msg{Kind: api.MNewView, From: 2, Epoch: 7, View: votes[0].View, Votes: votes}
}

func cast(v api.Vote, to uint8) api.Msg {
	return api.Msg{Kind: api.MVote, From: v.From, To: to, Epoch: v.Epoch, Vote: v}
}

// leader has what a new view of replica 2 in epoch 7 needs, but the votes.
func leader() *Know {
	k := New()
	tellAll(k)
	k.Learn(api.Key{Owner: 2, Epoch: 7})
	return k
}

// P4.2: each vote of a new view must have been seen, or its key be there.
func TestCanNeedsVotes(t *testing.T) {
	views := []api.Msg{
		newView(vote(0, 11)),
		newView(vote(0, 11), vote(1, 12)),
		newView(vote(0, 11), vote(1, 12), vote(3, 13)),
		newView(vote(0, 1), vote(1, 200), vote(2, 7), vote(3, 13)),
		newView(vote(0, 11), vote(2, 6), vote(3, 7)),
	}
	got := []func(*Know, api.Vote){
		func(k *Know, v api.Vote) { k.See(cast(v, 0)) },
		func(k *Know, v api.Vote) { k.See(cast(v, 3)) },
		func(k *Know, v api.Vote) {
			k.See(api.Msg{Kind: api.MNewView, From: 3, To: 1, Epoch: 9, View: v.View, Votes: []api.Vote{v}})
		},
		func(k *Know, v api.Vote) { k.Learn(api.Key{Owner: v.From, Epoch: v.Epoch}) },
	}
	for _, m := range views {
		for missing, v := range m.Votes {
			for way := range len(got) {
				k := leader()
				for i, w := range m.Votes {
					if i != missing {
						got[(way+i)%len(got)](k, w)
					}
				}
				if (v.From == 2 && v.Epoch == 7) != (k.Can(m) == api.OK) {
					t.Errorf("%d votes: without the %d. one: %v", len(m.Votes), missing, k.Can(m))
				}
				got[way](k, v)
				want(t, k, m, api.OK, "all votes")
			}
		}
	}
}

// P4.2: the votes don't stand in for the sender's key, nor does its key for them.
func TestNewViewNeedsItsKey(t *testing.T) {
	m := newView(vote(0, 11), vote(1, 12))
	k := New()
	tellAll(k)
	k.See(cast(vote(0, 11), 1))
	k.Learn(api.Key{Owner: 1, Epoch: 12})
	want(t, k, m, api.ErrDerive, "no key")
	k.Learn(api.Key{Owner: 2, Epoch: 6})
	want(t, k, m, api.ErrDerive, "another epoch's key")
	k.Learn(api.Key{Owner: 2, Epoch: 7})
	want(t, k, m, api.OK, "its key")
	m.Votes = nil
	want(t, k, m, api.OK, "no votes")
	want(t, leader(), m, api.OK, "no votes")
	want(t, leader(), newView(vote(0, 7)), api.ErrDerive, "a vote of its epoch, of another one")
	want(t, leader(), newView(vote(2, 6)), api.ErrDerive, "a vote of its own, of another epoch")
	want(t, leader(), newView(vote(2, 7)), api.OK, "a vote of its own")
}

// P4.2: the key of a vote doesn't stand in for the requests in it.
func TestVotesNeedRequests(t *testing.T) {
	k := New()
	learnAll(k)
	v := vote(3, 13)
	want(t, k, newView(v), api.ErrDerive, "nothing is known")
	tell(k, prepared(3)...)
	want(t, k, newView(v), api.ErrDerive, "what was prepared is known")
	want(t, k, cast(v, 0), api.ErrDerive, "what was prepared is known")
	tell(k, proposed(3)...)
	want(t, k, newView(v), api.OK, "all is known")
	want(t, k, cast(v, 0), api.OK, "all is known")
}

// P4.2: alike in all.
func TestVotesUnlikeInOneWord(t *testing.T) {
	for i, turn := range voteTurns() {
		other := vote(0, 11)
		turn(&other)
		if !msg.IsVote(other) {
			t.Fatalf("row %d: no vote", i)
		}
		for _, seen := range []api.Msg{cast(vote(0, 11), 2), newView(vote(0, 11), vote(3, 12))} {
			k := leader()
			k.See(seen)
			want(t, k, newView(vote(0, 11)), api.OK, "the vote")
			want(t, k, newView(other), api.ErrDerive, "another vote")
			k.Learn(api.Key{Owner: other.From, Epoch: other.Epoch})
			want(t, k, newView(other), api.OK, "another vote, with its key")
		}
		for _, seen := range []api.Msg{cast(other, 2), newView(other)} {
			k := leader()
			k.See(seen)
			want(t, k, newView(vote(0, 11)), api.ErrDerive, "another vote was seen")
		}
	}
}

// P4.2: a vote that was seen is shown in a new view, but not cast anew.
func TestSeenVotesAreNotCast(t *testing.T) {
	k := leader()
	k.See(cast(vote(0, 11), 2))
	want(t, k, cast(vote(0, 11), 2), api.OK, "seen")
	want(t, k, cast(vote(0, 11), 3), api.ErrDerive, "to another one")
	k.See(newView(vote(3, 12)))
	for to := range uint8(api.Replicas) {
		want(t, k, cast(vote(3, 12), to), api.ErrDerive, "seen in a new view")
	}
	k.Learn(api.Key{Owner: 3, Epoch: 12})
	want(t, k, cast(vote(3, 12), 1), api.OK, "its key")
}

// P4.2: asking adds nothing to what is known.
func TestCanAddsNothing(t *testing.T) {
	k := leader()
	n := k.Len()
	for range 2 {
		want(t, k, newView(vote(0, 11)), api.ErrDerive, "asked")
		want(t, k, cast(vote(0, 11), 1), api.ErrDerive, "asked")
		want(t, k, plain(api.MPrepare, 2, 7), api.OK, "asked")
		m := plain(api.MPrepare, 2, 7)
		m.Req = put(4, 77)
		want(t, k, m, api.ErrDerive, "asked")
		want(t, k, plain(api.MNewKey, 1, 7), api.ErrDerive, "asked")
	}
	if k.Len() != n || k.Knows(put(4, 77)) || len(k.Keys()) != 1 {
		t.Errorf("%d, %v", k.Len(), k.Keys())
	}
}

// P4.2: the chapter's example.
func TestChaptersExample(t *testing.T) {
	k := New()
	tell(k, put(1, 1))
	k.Learn(api.Key{Owner: 2, Epoch: 1})
	m := api.Msg{Kind: api.MPrepare, From: 2, To: 3, Epoch: 1, Seq: 1, Req: put(1, 1)}
	want(t, k, m, api.OK, "a known request")
	m.Req = put(1, 2)
	want(t, k, m, api.ErrDerive, "one that isn't known")
}

// P4.3: with one key nothing of others, and nothing of its owner's other
// epochs, but what was seen.
func TestOneKeyMakesItsOwnersAlone(t *testing.T) {
	for _, key := range []api.Key{{Owner: 0, Epoch: 1}, {Owner: 1, Epoch: 2}, {Owner: 2, Epoch: 100}, {Owner: 3, Epoch: 199}, {Owner: 3, Epoch: 200}} {
		k := New()
		k.Learn(key)
		tellAll(k)
		for _, other := range allKeys() {
			for _, kind := range kinds() {
				m := plain(kind, other.Owner, other.Epoch)
				if kind == api.MNewView {
					m.Votes = []api.Vote{vote(other.Owner, other.Epoch)}
				}
				if kind == api.MRequest {
					m.To = 2
				}
				e := api.ErrDerive
				if other == key && slices.Contains(sendersKinds(), kind) {
					e = api.OK
				}
				want(t, k, m, e, "not seen")
				if other.Epoch%50 == 0 && kind != api.MRequest {
					k.See(m)
					want(t, k, m, api.OK, "seen")
					again := m
					again.To ^= 3
					if msg.Is(again) {
						want(t, k, again, e, "seen for another one")
					}
				}
			}
		}
	}
}

// P4.3: nor does it lay a vote of another one, or of another epoch, into its
// own new view.
func TestOneKeyCastsItsOwnersVotes(t *testing.T) {
	k := leader()
	for _, other := range allKeys() {
		e := api.ErrDerive
		if other == (api.Key{Owner: 2, Epoch: 7}) {
			e = api.OK
		}
		want(t, k, newView(vote(other.Owner, other.Epoch)), e, "not seen")
		if other.Epoch%50 == 0 {
			k.See(cast(vote(other.Owner, other.Epoch), 1))
			want(t, k, newView(vote(other.Owner, other.Epoch)), api.OK, "seen")
		}
	}
}

// book is the chapter in the plainest way: lists that are gone through.
type book struct {
	seen     []api.Msg
	votes    []api.Vote
	requests []api.Request
	keys     []api.Key
}

func sameVote(a, b api.Vote) bool {
	return msg.Same(api.Msg{Vote: a}, api.Msg{Vote: b})
}

func (b *book) see(m api.Msg) {
	if !msg.Is(m) {
		return
	}
	if !slices.ContainsFunc(b.seen, func(s api.Msg) bool { return msg.Same(s, m) }) {
		b.seen = append(b.seen, m)
	}
	b.requests = append(b.requests, m.Req)
	for _, v := range append(slices.Clone(m.Votes), m.Vote) {
		b.votes = append(b.votes, v)
		for _, e := range append(slices.Clone(v.P), v.Q...) {
			b.requests = append(b.requests, e.Req)
		}
	}
}

func (b *book) knows(r api.Request) bool {
	return r == api.Request{} || slices.Contains(b.requests, r)
}

func (b *book) can(m api.Msg) api.Errno {
	if !msg.Is(m) {
		return api.ErrForm
	}
	if slices.ContainsFunc(b.seen, func(s api.Msg) bool { return msg.Same(s, m) }) {
		return api.OK
	}
	if !slices.Contains(b.keys, api.Key{Owner: m.From, Epoch: m.Epoch}) || m.Kind == api.MNewKey || m.Kind == api.MQuery || !b.knows(m.Req) {
		return api.ErrDerive
	}
	for _, v := range append(slices.Clone(m.Votes), m.Vote) {
		for _, e := range append(slices.Clone(v.P), v.Q...) {
			if !b.knows(e.Req) {
				return api.ErrDerive
			}
		}
	}
	for _, v := range m.Votes {
		if !slices.ContainsFunc(b.votes, func(s api.Vote) bool { return sameVote(s, v) }) && !slices.Contains(b.keys, api.Key{Owner: v.From, Epoch: v.Epoch}) {
			return api.ErrDerive
		}
	}
	return api.OK
}

// drawnVote and drawn choose from few words, so that what is drawn comes again.
func drawnVote(r *rand.Rand, from, epoch uint8) api.Vote {
	v := api.Vote{From: from, Epoch: epoch, View: 1, Low: uint32(r.Intn(2))}
	if r.Intn(2) == 0 {
		v.P = []api.Entry{{Seq: 1, Req: drawnRequest(r)}}
	}
	if r.Intn(2) == 0 {
		v.Q = []api.Entry{{Seq: 1, Req: drawnRequest(r)}}
	}
	return v
}

func drawnRequest(r *rand.Rand) api.Request {
	if r.Intn(4) == 0 {
		return api.Request{}
	}
	return put(uint8(1+r.Intn(2)), uint32(1+r.Intn(2)))
}

func drawn(r *rand.Rand) api.Msg {
	m := plain(uint8(r.Intn(15)), uint8(r.Intn(4)), uint8(1+r.Intn(2)))
	switch m.Kind {
	case api.MRequest:
		m.Req = drawnRequest(r)
		m.From = 10 + m.Req.Client
	case api.MPrePrepare, api.MPrepare, api.MCommit:
		m.Req = drawnRequest(r)
	case api.MReply:
		m.Req = drawnRequest(r)
		m.To = 10 + m.Req.Client
	case api.MVote:
		m.Vote = drawnVote(r, m.From, m.Epoch)
	case api.MNewView:
		m.View, m.Votes = 1, nil
		for from := range uint8(api.Replicas) {
			if r.Intn(3) == 0 {
				m.Votes = append(m.Votes, drawnVote(r, from, uint8(1+r.Intn(2))))
			}
		}
	}
	return m
}

// P4.1, P4.2, P4.3: whatever is seen and learnt, it is as by the lists.
func TestAsByLists(t *testing.T) {
	r := rand.New(rand.NewSource(4))
	for range 150 {
		k, b := New(), &book{}
		for range 60 {
			m := drawn(r)
			switch r.Intn(4) {
			case 0:
				key := api.Key{Owner: uint8(r.Intn(5)), Epoch: uint8(r.Intn(3))}
				k.Learn(key)
				if key.Owner < 4 && key.Epoch > 0 {
					b.keys = append(b.keys, key)
				}
			case 1:
				k.See(m)
				b.see(m)
			default:
				want(t, k, m, b.can(m), "drawn")
			}
			q := drawnRequest(r)
			if k.Knows(q) != b.knows(q) || k.Len() != len(b.seen) {
				t.Fatalf("%s: %v; %d seen, not %d", msg.Text(q), k.Knows(q), k.Len(), len(b.seen))
			}
		}
		for _, m := range b.seen {
			want(t, k, m, api.OK, "seen")
		}
	}
}
