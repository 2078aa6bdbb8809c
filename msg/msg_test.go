package msg

import (
	"bytes"
	"math"
	"math/rand"
	"slices"
	"strconv"
	"testing"

	"palisade/api"
)

func put(client uint8, ts uint32, key uint8, val uint16) api.Request {
	return request(client, ts, api.OpPut, key, val)
}

func request(client uint8, ts uint32, kind, key uint8, val uint16) api.Request {
	return api.Request{Client: client, Ts: ts, Op: api.Op{Kind: kind, Key: key, Val: val}}
}

func plainVote() api.Vote {
	return api.Vote{
		From: 2, Epoch: 7, View: 3, Low: 4,
		Marks: []api.Mark{{Seq: 4, Root: 0x0102030405060708}, {Seq: 8, Root: 9}},
		P:     []api.Entry{{Seq: 5, View: 1, Req: put(1, 2, 3, 4)}, {Seq: 6, View: 2}},
		Q:     []api.Entry{{Seq: 5, View: 2, Req: put(1, 10, 3, 4)}, {Seq: 5, View: 1, Req: put(1, 2, 3, 4)}, {Seq: 7}},
	}
}

func voteOf(from uint8, n uint32) api.Vote {
	v := plainVote()
	v.From, v.View = from, n
	return v
}

// plain is a message of each kind; each of its parts is unlike zero.
func plain(kind uint8) api.Msg {
	m := api.Msg{Kind: kind, From: 2, To: 1, Epoch: 7}
	switch kind {
	case api.MRequest:
		m.From, m.Epoch, m.Req = 13, 0, put(3, 0x01020304, 5, 0x0607)
	case api.MPrePrepare, api.MPrepare, api.MCommit:
		m.View, m.Seq, m.Req = 0x010203, 0x04050607, put(4, 1, 2, 3)
	case api.MCheckpoint:
		m.Seq, m.Root = 8, 0x8102030405060708
	case api.MVote:
		m.Vote = plainVote()
	case api.MNewView:
		m.View, m.Votes = 3, []api.Vote{voteOf(0, 3), voteOf(1, 3), voteOf(3, 3)}
	case api.MNewKey, api.MQuery:
		m.Count = 7
	case api.MEstimate:
		m.Count, m.Seq = 9, 12
	case api.MFetch:
		m.Seq, m.Page = 12, 8
	case api.MSums:
		m.Seq, m.Sums = 12, []uint64{1, 2, 3, 4, 5, 6, 7, 1<<64 - 1}
	case api.MPage:
		m.Seq, m.Page, m.Data = 12, 7, []byte("abc")
	case api.MReply:
		m.To, m.View, m.Req, m.Result = 12, 5, request(2, 9, api.OpGet, 63, 0), 0x81020304
	}
	return m
}

func kinds() []uint8 {
	var all []uint8
	for k := uint8(api.MRequest); k <= api.MReply; k++ {
		all = append(all, k)
	}
	return all
}

// rising are n entries at the places 1 to n.
func rising(n int) []api.Entry {
	list := make([]api.Entry, n)
	for i := range list {
		list[i].Seq = uint32(i + 1)
	}
	return list
}

func risingMarks(n int) []api.Mark {
	list := make([]api.Mark, n)
	for i := range list {
		list[i] = api.Mark{Seq: uint32(i), Root: 5}
	}
	return list
}

// P3.1
func TestRequests(t *testing.T) {
	for i, c := range []struct {
		r    api.Request
		want bool
	}{
		{api.Request{}, true},
		{put(1, 1, 0, 0), true},
		{put(4, 1, 0, 0), true},
		{put(0, 1, 0, 0), false},
		{put(5, 1, 0, 0), false},
		{put(11, 1, 0, 0), false},
		{put(255, 1, 0, 0), false},
		{put(1, 0, 0, 0), false},
		{put(1, math.MaxUint32, 0, 0), true},
		{request(1, 1, api.OpNull, 0, 0), false},
		{request(1, 1, api.OpGet, 0, 0), true},
		{request(1, 1, api.OpAdd, 0, 0), true},
		{request(1, 1, api.OpAdd+1, 0, 0), false},
		{request(1, 1, 255, 0, 0), false},
		{put(1, 1, api.Keys-1, 0), true},
		{put(1, 1, api.Keys, 0), false},
		{put(1, 1, 255, 0), false},
		{put(1, 1, 0, math.MaxUint16), true},
		{request(1, 1, api.OpAdd, 63, math.MaxUint16), true},
		{request(1, 1, api.OpGet, 63, 0), true},
		{request(1, 1, api.OpGet, 0, 1), false},
		{request(1, 1, api.OpGet, 0, math.MaxUint16), false},
		{request(1, 1, api.OpGet, 64, 0), false},
		{request(0, 1, 0, 0, 0), false},
		{request(1, 0, 0, 0, 0), false},
		{request(0, 0, api.OpPut, 0, 0), false},
		{request(0, 0, api.OpGet, 0, 0), false},
		{request(0, 0, 0, 1, 0), false},
		{request(0, 0, 0, 0, 1), false},
	} {
		if IsReq(c.r) != c.want {
			t.Errorf("row %d: IsReq(%s) isn't %v", i, Text(c.r), c.want)
		}
	}
}

// entryLists are what may be done to P and to Q alike.
func entryLists() []struct {
	list []api.Entry
	want bool
} {
	const top, least = api.MaxSeq, 1
	wrong := put(1, 1, 64, 0)
	return []struct {
		list []api.Entry
		want bool
	}{
		{nil, true},
		{[]api.Entry{}, true},
		{rising(api.MaxList), true},
		{rising(api.MaxList + 1), false},
		{rising(300), false},
		{[]api.Entry{{Seq: 0}}, false},
		{[]api.Entry{{Seq: 0}, {Seq: 1}}, false},
		{[]api.Entry{{Seq: least}}, true},
		{[]api.Entry{{Seq: top}}, true},
		{[]api.Entry{{Seq: top + 1}}, false},
		{[]api.Entry{{Seq: top}, {Seq: top + 1}}, false},
		{[]api.Entry{{Seq: math.MaxUint32}}, false},
		{[]api.Entry{{Seq: 1, View: api.MaxView}}, true},
		{[]api.Entry{{Seq: 1, View: api.MaxView + 1}}, false},
		{[]api.Entry{{Seq: 1}, {Seq: 2, View: math.MaxUint32}}, false},
		{[]api.Entry{{Seq: 1, Req: put(4, 1, 63, 1)}}, true},
		{[]api.Entry{{Seq: 1, Req: wrong}}, false},
		{[]api.Entry{{Seq: 1}, {Seq: 2, Req: wrong}}, false},
		{[]api.Entry{{Seq: 1, Req: wrong}, {Seq: 2}}, false},
		{[]api.Entry{{Seq: 1}, {Seq: 3}, {Seq: 9}}, true},
		{[]api.Entry{{Seq: 1}, {Seq: 9}, {Seq: 3}}, false},
		{[]api.Entry{{Seq: 9}, {Seq: 1}, {Seq: 3}}, false},
		{[]api.Entry{{Seq: 2, Req: put(4, 1, 1, 1)}, {Seq: 1, Req: put(5, 1, 1, 1)}}, false},
		{[]api.Entry{{Seq: 2, Req: put(1, 1, 1, 1)}, {Seq: 1, Req: put(4, 1, 1, 1)}}, false},
		{[]api.Entry{{Seq: 1, Req: put(4, 1, 1, 1)}, {Seq: 2, Req: put(1, 1, 1, 1)}}, true},
		{[]api.Entry{{Seq: 3}, {Seq: 3}}, false},
		{[]api.Entry{{Seq: 3, View: 1}, {Seq: 3, View: 2}}, false},
		{[]api.Entry{{Seq: 3, View: 2}, {Seq: 3, View: 1}}, false},
	}
}

// P3.1
func TestEntriesOfVotes(t *testing.T) {
	for i, c := range entryLists() {
		v := plainVote()
		v.P = c.list
		if IsVote(v) != c.want {
			t.Errorf("row %d: P isn't %v", i, c.want)
		}
		v = plainVote()
		v.Q = c.list
		if IsVote(v) != c.want {
			t.Errorf("row %d: Q isn't %v", i, c.want)
		}
	}
}

// P3.1
func TestRequestsAtOnePlace(t *testing.T) {
	at := func(r ...api.Request) []api.Entry {
		var list []api.Entry
		for _, r := range r {
			list = append(list, api.Entry{Seq: 5, View: 1, Req: r})
		}
		return list
	}
	for i, c := range []struct {
		list []api.Entry
		want bool
	}{
		// As texts 1:10:.. stands ahead of 1:2:.. and 1:9:..
		{at(put(1, 10, 3, 4), put(1, 2, 3, 4)), true},
		{at(put(1, 2, 3, 4), put(1, 10, 3, 4)), false},
		{at(put(1, 10, 3, 4), put(1, 9, 3, 4)), true},
		{at(put(1, 9, 3, 4), put(1, 10, 3, 4)), false},
		// A digit stands ahead of a colon.
		{at(put(1, 10, 3, 4), put(1, 1, 3, 4)), true},
		{at(put(1, 1, 3, 4), put(1, 10, 3, 4)), false},
		{at(put(1, 1, 3, 4), put(2, 1, 3, 4)), true},
		{at(put(2, 1, 3, 4), put(1, 1, 3, 4)), false},
		{at(put(1, 1, 3, 4), request(1, 1, api.OpAdd, 3, 4)), true},
		{at(request(1, 1, api.OpAdd, 3, 4), put(1, 1, 3, 4)), false},
		{at(put(1, 1, 10, 4), put(1, 1, 9, 4)), true},
		{at(put(1, 1, 9, 4), put(1, 1, 10, 4)), false},
		// A text that begins like a longer one stands ahead of it.
		{at(put(1, 1, 3, 1), put(1, 1, 3, 10)), true},
		{at(put(1, 1, 3, 10), put(1, 1, 3, 1)), false},
		{at(put(1, 1, 3, 10), put(1, 1, 3, 9)), true},
		{at(put(1, 1, 3, 9), put(1, 1, 3, 10)), false},
		{at(api.Request{}, put(1, 1, 3, 4)), true},
		{at(put(1, 1, 3, 4), api.Request{}), false},
		{at(put(1, 1, 3, 4), put(1, 1, 3, 4)), false},
		{at(put(1, 1, 3, 1), put(1, 1, 3, 2), put(1, 1, 3, 2)), false},
		{at(put(1, 1, 3, 1), put(1, 1, 3, 2), put(1, 1, 3, 3)), true},
	} {
		v := plainVote()
		v.Q = c.list
		if IsVote(v) != c.want {
			t.Errorf("row %d: Q isn't %v", i, c.want)
		}
		v = plainVote()
		v.P = c.list
		if IsVote(v) {
			t.Errorf("row %d: P has one place twice", i)
		}
	}
}

// P3.1
func TestMarksOfVotes(t *testing.T) {
	for i, c := range []struct {
		list []api.Mark
		want bool
	}{
		{nil, true},
		{[]api.Mark{}, true},
		{risingMarks(api.MaxList), true},
		{risingMarks(api.MaxList + 1), false},
		{risingMarks(300), false},
		{[]api.Mark{{Seq: 0, Root: math.MaxUint64}}, true},
		{[]api.Mark{{Seq: api.MaxSeq}}, true},
		{[]api.Mark{{Seq: api.MaxSeq + 1}}, false},
		{[]api.Mark{{Seq: math.MaxUint32}}, false},
		{[]api.Mark{{Seq: 1}, {Seq: api.MaxSeq + 1}}, false},
		{[]api.Mark{{Seq: 4, Root: 1}, {Seq: 4, Root: 2}}, false},
		{[]api.Mark{{Seq: 4, Root: 1}, {Seq: 4, Root: 1}}, false},
		{[]api.Mark{{Seq: 4}, {Seq: 3}}, false},
		{[]api.Mark{{Seq: 0}, {Seq: 0}}, false},
		{[]api.Mark{{Seq: 0}, {Seq: 1}, {Seq: 7}}, true},
		{[]api.Mark{{Seq: 0}, {Seq: 7}, {Seq: 1}}, false},
		{[]api.Mark{{Seq: 7}, {Seq: 0}, {Seq: 1}}, false},
		{[]api.Mark{{Seq: 3}, {Seq: 5}}, true},
	} {
		v := plainVote()
		v.Marks = c.list
		if IsVote(v) != c.want {
			t.Errorf("row %d: Marks aren't %v", i, c.want)
		}
	}
}

// P3.1
func TestWordsOfVotes(t *testing.T) {
	for i, c := range []struct {
		set  func(v *api.Vote)
		want bool
	}{
		{func(v *api.Vote) {}, true},
		{func(v *api.Vote) { v.From = 0 }, true},
		{func(v *api.Vote) { v.From = api.Replicas - 1 }, true},
		{func(v *api.Vote) { v.From = api.Replicas }, false},
		{func(v *api.Vote) { v.From = 11 }, false},
		{func(v *api.Vote) { v.From = 255 }, false},
		{func(v *api.Vote) { v.Epoch = 0 }, false},
		{func(v *api.Vote) { v.Epoch = 1 }, true},
		{func(v *api.Vote) { v.Epoch = api.MaxEpoch }, true},
		{func(v *api.Vote) { v.Epoch = api.MaxEpoch + 1 }, false},
		{func(v *api.Vote) { v.Epoch = 255 }, false},
		{func(v *api.Vote) { v.View = 0 }, false},
		{func(v *api.Vote) { v.View = 1 }, true},
		{func(v *api.Vote) { v.View = api.MaxView }, true},
		{func(v *api.Vote) { v.View = api.MaxView + 1 }, false},
		{func(v *api.Vote) { v.View = math.MaxUint32 }, false},
		{func(v *api.Vote) { v.Low = 0 }, true},
		{func(v *api.Vote) { v.Low = api.MaxSeq }, true},
		{func(v *api.Vote) { v.Low = api.MaxSeq + 1 }, false},
		{func(v *api.Vote) { v.Low = math.MaxUint32 }, false},
		{func(v *api.Vote) { *v = api.Vote{Epoch: 1, View: 1} }, true},
		{func(v *api.Vote) { *v = api.Vote{} }, false},
		{func(v *api.Vote) { v.Marks, v.P, v.Q = risingMarks(40), rising(40), rising(40) }, true},
	} {
		v := plainVote()
		c.set(&v)
		if IsVote(v) != c.want {
			t.Errorf("row %d isn't %v", i, c.want)
		}
	}
}

// P3.2
func TestPlainMessages(t *testing.T) {
	for _, k := range kinds() {
		if !Is(plain(k)) {
			t.Errorf("kind %d: not a message", k)
		}
	}
	for k := range 256 {
		m := api.Msg{Kind: uint8(k), From: 2, To: 1, Epoch: 7}
		if k >= api.MRequest && k <= api.MReply {
			continue
		}
		if Is(m) || Is(api.Msg{Kind: uint8(k)}) {
			t.Errorf("kind %d is none", k)
		}
	}
}

// P3.2
func TestAddresses(t *testing.T) {
	for _, k := range kinds() {
		for n := range 256 {
			m := plain(k)
			m.From = uint8(n)
			if k == api.MVote {
				m.Vote.From = m.From
			}
			want := n < api.Replicas
			if k == api.MRequest {
				want = n == 13
			}
			if Is(m) != want {
				t.Errorf("kind %d from %d isn't %v", k, n, want)
			}
			m = plain(k)
			m.To = uint8(n)
			want = n < api.Replicas
			if k == api.MReply {
				want = n == 12
			}
			if Is(m) != want {
				t.Errorf("kind %d to %d isn't %v", k, n, want)
			}
		}
	}
}

// P3.2
func TestClients(t *testing.T) {
	for n := range 256 {
		for c := range 256 {
			want := c >= 1 && c <= api.Clients && n == 10+c
			m := plain(api.MRequest)
			m.From, m.Req.Client = uint8(n), uint8(c)
			if Is(m) != want {
				t.Errorf("request of client %d from %d isn't %v", c, n, want)
			}
			m = plain(api.MReply)
			m.To, m.Req.Client = uint8(n), uint8(c)
			if Is(m) != want {
				t.Errorf("reply to client %d at %d isn't %v", c, n, want)
			}
		}
	}
}

// P3.2
func TestEpochs(t *testing.T) {
	for _, k := range kinds() {
		for n := range 256 {
			m := plain(k)
			m.Epoch = uint8(n)
			switch k {
			case api.MVote:
				m.Vote.Epoch = m.Epoch
			case api.MNewKey, api.MQuery:
				m.Count = m.Epoch
			}
			want := n >= 1 && n <= api.MaxEpoch
			if k == api.MRequest {
				want = n == 0
			}
			if Is(m) != want {
				t.Errorf("kind %d of epoch %d isn't %v", k, n, want)
			}
		}
	}
}

// word is one that a message may have, set to what would be right where it
// is a kind's own.
type word struct {
	name string
	set  func(m *api.Msg)
	own  []uint8
}

func allWords() []word {
	phases := []uint8{api.MPrePrepare, api.MPrepare, api.MCommit}
	return []word{
		{"View", func(m *api.Msg) { m.View = 1 }, append(slices.Clone(phases), api.MNewView, api.MReply)},
		{"Seq", func(m *api.Msg) { m.Seq = 1 }, append(slices.Clone(phases), api.MCheckpoint, api.MEstimate, api.MFetch, api.MSums, api.MPage)},
		{"Req", func(m *api.Msg) { m.Req = put(1, 1, 1, 1) }, append(slices.Clone(phases), api.MRequest, api.MReply)},
		{"Req.Client", func(m *api.Msg) { m.Req.Client = 1 }, append(slices.Clone(phases), api.MRequest, api.MReply)},
		{"Req.Val", func(m *api.Msg) { m.Req.Op.Val = 1 }, append(slices.Clone(phases), api.MRequest, api.MReply)},
		{"Root", func(m *api.Msg) { m.Root = 1 }, []uint8{api.MCheckpoint}},
		{"Count", func(m *api.Msg) { m.Count = 7 }, []uint8{api.MNewKey, api.MQuery, api.MEstimate}},
		{"Page", func(m *api.Msg) { m.Page = 1 }, []uint8{api.MFetch, api.MPage}},
		{"Result", func(m *api.Msg) { m.Result = 1 }, []uint8{api.MReply}},
		{"Vote", func(m *api.Msg) { m.Vote = plainVote() }, []uint8{api.MVote}},
		{"Vote.From", func(m *api.Msg) { m.Vote.From = 1 }, []uint8{api.MVote}},
		{"Vote.Epoch", func(m *api.Msg) { m.Vote.Epoch = 1 }, []uint8{api.MVote}},
		{"Vote.View", func(m *api.Msg) { m.Vote.View = 1 }, []uint8{api.MVote}},
		{"Vote.Low", func(m *api.Msg) { m.Vote.Low = 1 }, []uint8{api.MVote}},
		{"Vote.Marks", func(m *api.Msg) { m.Vote.Marks = make([]api.Mark, 1) }, []uint8{api.MVote}},
		{"Vote.P", func(m *api.Msg) { m.Vote.P = make([]api.Entry, 1) }, []uint8{api.MVote}},
		{"Vote.Q", func(m *api.Msg) { m.Vote.Q = make([]api.Entry, 1) }, []uint8{api.MVote}},
		{"Votes", func(m *api.Msg) { m.Votes = []api.Vote{voteOf(0, 3)} }, []uint8{api.MNewView}},
		{"Votes, zero", func(m *api.Msg) { m.Votes = make([]api.Vote, 1) }, []uint8{api.MNewView}},
		{"Sums", func(m *api.Msg) { m.Sums = make([]uint64, api.Pages) }, []uint8{api.MSums}},
		{"Sums, one", func(m *api.Msg) { m.Sums = make([]uint64, 1) }, []uint8{api.MSums}},
		{"Data", func(m *api.Msg) { m.Data = make([]byte, 1) }, []uint8{api.MPage}},
	}
}

// P3.2
func TestOtherWords(t *testing.T) {
	for _, k := range kinds() {
		for _, w := range allWords() {
			if slices.Contains(w.own, k) {
				continue
			}
			m := plain(k)
			w.set(&m)
			if Is(m) {
				t.Errorf("kind %d with %s is none", k, w.name)
			}
			if b, e := Encode(m); e != api.ErrForm || len(b) > 0 {
				t.Errorf("kind %d with %s: %v", k, w.name, e)
			}
		}
	}
}

// P3.2
func TestEmptyListsAreNone(t *testing.T) {
	for _, k := range kinds() {
		m := plain(k)
		fill := func(v *api.Vote) {
			if v.Marks == nil {
				v.Marks, v.P, v.Q = []api.Mark{}, []api.Entry{}, make([]api.Entry, 0, 3)
			}
		}
		fill(&m.Vote)
		if m.Votes == nil {
			m.Votes = []api.Vote{}
		}
		if m.Sums == nil {
			m.Sums = make([]uint64, 0, 8)
		}
		if m.Data == nil {
			m.Data = []byte{}
		}
		if !Is(m) || !Same(m, plain(k)) || !Same(plain(k), m) {
			t.Errorf("kind %d: an empty list isn't like nil", k)
		}
	}
}

// P3.2
func TestNumbers(t *testing.T) {
	phases := []uint8{api.MPrePrepare, api.MPrepare, api.MCommit}
	seqs := []uint8{api.MCheckpoint, api.MEstimate, api.MFetch, api.MSums, api.MPage}
	setView := func(n uint32) func(*api.Msg) { return func(m *api.Msg) { m.View = n } }
	setSeq := func(n uint32) func(*api.Msg) { return func(m *api.Msg) { m.Seq = n } }
	setPage := func(n uint8) func(*api.Msg) { return func(m *api.Msg) { m.Page = n } }
	setCount := func(n uint8) func(*api.Msg) { return func(m *api.Msg) { m.Count = n } }
	setRoot := func(n uint64) func(*api.Msg) { return func(m *api.Msg) { m.Root = n } }
	setResult := func(n uint32) func(*api.Msg) { return func(m *api.Msg) { m.Result = n } }
	for i, c := range []struct {
		kinds []uint8
		set   func(m *api.Msg)
		want  bool
	}{
		{append(slices.Clone(phases), api.MReply), setView(0), true},
		{append(slices.Clone(phases), api.MReply), setView(api.MaxView), true},
		{append(slices.Clone(phases), api.MReply), setView(api.MaxView + 1), false},
		{append(slices.Clone(phases), api.MReply), setView(math.MaxUint32), false},
		{phases, setSeq(0), false},
		{phases, setSeq(1), true},
		{phases, setSeq(api.MaxSeq), true},
		{phases, setSeq(api.MaxSeq + 1), false},
		{phases, setSeq(math.MaxUint32), false},
		{seqs, setSeq(0), true},
		{seqs, setSeq(api.MaxSeq), true},
		{seqs, setSeq(api.MaxSeq + 1), false},
		{seqs, setSeq(math.MaxUint32), false},
		{[]uint8{api.MCheckpoint}, setRoot(0), true},
		{[]uint8{api.MCheckpoint}, setRoot(math.MaxUint64), true},
		{[]uint8{api.MNewKey, api.MQuery}, setCount(6), false},
		{[]uint8{api.MNewKey, api.MQuery}, setCount(8), false},
		{[]uint8{api.MNewKey, api.MQuery}, setCount(0), false},
		{[]uint8{api.MNewKey, api.MQuery}, setCount(255), false},
		{[]uint8{api.MEstimate}, setCount(0), true},
		{[]uint8{api.MEstimate}, setCount(255), true},
		{[]uint8{api.MFetch, api.MPage}, setPage(0), true},
		{[]uint8{api.MFetch, api.MPage}, setPage(api.Pages - 1), true},
		{[]uint8{api.MFetch}, setPage(api.Pages), true},
		{[]uint8{api.MPage}, setPage(api.Pages), false},
		{[]uint8{api.MFetch, api.MPage}, setPage(api.Pages + 1), false},
		{[]uint8{api.MFetch, api.MPage}, setPage(255), false},
		{[]uint8{api.MReply}, setResult(0), true},
		{[]uint8{api.MReply}, setResult(math.MaxUint32), true},
	} {
		for _, k := range c.kinds {
			m := plain(k)
			c.set(&m)
			if Is(m) != c.want {
				t.Errorf("row %d, kind %d: isn't %v", i, k, c.want)
			}
		}
	}
}

// P3.2
func TestRequestsOfMessages(t *testing.T) {
	for _, k := range []uint8{api.MPrePrepare, api.MPrepare, api.MCommit} {
		for i, c := range []struct {
			r    api.Request
			want bool
		}{{api.Request{}, true}, {put(1, 1, 0, 0), true}, {put(1, 0, 0, 0), false}, {put(5, 1, 0, 0), false}, {put(1, 1, 64, 0), false}, {request(1, 1, 4, 0, 0), false}, {request(1, 1, api.OpGet, 0, 1), false}} {
			m := plain(k)
			m.Req = c.r
			if Is(m) != c.want {
				t.Errorf("kind %d, row %d: isn't %v", k, i, c.want)
			}
		}
	}
	for _, k := range []uint8{api.MRequest, api.MReply} {
		client := plain(k).Req.Client
		for i, c := range []struct {
			r    api.Request
			want bool
		}{{api.Request{}, false}, {put(client, 1, 0, 0), true}, {put(client, 0, 0, 0), false}, {put(client, 1, 64, 0), false}, {request(client, 1, 0, 0, 0), false}, {request(client, 1, api.OpGet, 0, 1), false}, {put(client+1, 1, 0, 0), false}} {
			m := plain(k)
			m.Req = c.r
			if Is(m) != c.want {
				t.Errorf("kind %d, row %d: isn't %v", k, i, c.want)
			}
		}
		// 10 is no client's address, whatever the request.
		m := plain(k)
		m.Req = api.Request{}
		if k == api.MRequest {
			m.From = 10
		} else {
			m.To = 10
		}
		if Is(m) {
			t.Errorf("kind %d: the null request has no client", k)
		}
	}
}

// P3.2
func TestVoteOfMessage(t *testing.T) {
	for i, c := range []struct {
		set  func(m *api.Msg)
		want bool
	}{
		{func(m *api.Msg) { m.Vote.From = 1 }, false},
		{func(m *api.Msg) { m.From = 1 }, false},
		{func(m *api.Msg) { m.From, m.Vote.From = 1, 1 }, true},
		{func(m *api.Msg) { m.Vote.Epoch = 8 }, false},
		{func(m *api.Msg) { m.Epoch = 8 }, false},
		{func(m *api.Msg) { m.Epoch, m.Vote.Epoch = 8, 8 }, true},
		{func(m *api.Msg) { m.View = m.Vote.View }, false},
		{func(m *api.Msg) { m.Vote.View = 0 }, false},
		{func(m *api.Msg) { m.Vote.View = api.MaxView }, true},
		{func(m *api.Msg) { m.Vote.View = api.MaxView + 1 }, false},
		{func(m *api.Msg) { m.Vote.P = rising(41) }, false},
		{func(m *api.Msg) { m.Vote = api.Vote{} }, false},
		{func(m *api.Msg) { m.Vote = api.Vote{From: 2, Epoch: 7, View: 1} }, true},
	} {
		m := plain(api.MVote)
		c.set(&m)
		if Is(m) != c.want {
			t.Errorf("row %d isn't %v", i, c.want)
		}
	}
}

// P3.2
func TestVotesOfMessage(t *testing.T) {
	of := func(n uint32, from ...uint8) func(m *api.Msg) {
		return func(m *api.Msg) {
			m.View, m.Votes = n, nil
			for _, f := range from {
				m.Votes = append(m.Votes, voteOf(f, n))
			}
		}
	}
	for i, c := range []struct {
		set  func(m *api.Msg)
		want bool
	}{
		{of(3), true},
		{of(3, 3), true},
		{of(3, 0, 1, 2, 3), true},
		{of(3, 0, 1, 2, 3, 3), false},
		{of(3, 0, 1, 2, 3, 4), false},
		{of(3, 4), false},
		{of(3, 0, 0), false},
		{of(3, 1, 0), false},
		{of(3, 0, 2, 1), false},
		{of(3, 0, 2, 2), false},
		{of(0), false},
		{of(0, 1), false},
		{of(1, 0, 3), true},
		{of(api.MaxView, 0, 3), true},
		{of(api.MaxView+1, 0, 3), false},
		{of(api.MaxView + 1), false},
		{of(math.MaxUint32), false},
		{func(m *api.Msg) { m.View = 4 }, false},
		{func(m *api.Msg) { m.Votes[0].View = 2 }, false},
		{func(m *api.Msg) { m.Votes[2].View = 4 }, false},
		{func(m *api.Msg) { m.Votes[0].Epoch = 0 }, false},
		{func(m *api.Msg) { m.Votes[2].Epoch = 201 }, false},
		{func(m *api.Msg) { m.Votes[2].Epoch = 200 }, true},
		{func(m *api.Msg) { m.Votes[1].Q = rising(41) }, false},
		{func(m *api.Msg) { m.Votes[1].Q = rising(40) }, true},
	} {
		m := plain(api.MNewView)
		c.set(&m)
		if Is(m) != c.want {
			t.Errorf("row %d isn't %v", i, c.want)
		}
	}
}

// P3.2
func TestLengths(t *testing.T) {
	for n := range 300 {
		m := plain(api.MSums)
		m.Sums = make([]uint64, n)
		if Is(m) != (n == api.Pages) {
			t.Errorf("%d sums", n)
		}
		m = plain(api.MPage)
		m.Data = make([]byte, n)
		if Is(m) != (n <= api.MaxPage) {
			t.Errorf("%d bytes of data", n)
		}
	}
}

// P3.3
func TestBytesOfMessages(t *testing.T) {
	phase := []byte{2, 1, 7, 0, 1, 2, 3, 4, 5, 6, 7, 4, 0, 0, 0, 1, 1, 2, 0, 3}
	tail := []byte{
		0, 0, 0, 4,
		2, 0, 0, 0, 4, 1, 2, 3, 4, 5, 6, 7, 8, 0, 0, 0, 8, 0, 0, 0, 0, 0, 0, 0, 9,
		2, 0, 0, 0, 5, 0, 0, 0, 1, 1, 0, 0, 0, 2, 1, 3, 0, 4, 0, 0, 0, 6, 0, 0, 0, 2, 0, 0, 0, 0, 0, 0, 0, 0, 0,
		3, 0, 0, 0, 5, 0, 0, 0, 2, 1, 0, 0, 0, 10, 1, 3, 0, 4, 0, 0, 0, 5, 0, 0, 0, 1, 1, 0, 0, 0, 2, 1, 3, 0, 4, 0, 0, 0, 7, 0, 0, 0, 0, 0, 0, 0, 0, 0, 0, 0, 0, 0,
	}
	ballot := func(from byte) []byte { return append([]byte{from, 7, 0, 0, 0, 3}, tail...) }
	for k, want := range map[uint8][]byte{
		api.MRequest:    {1, 13, 1, 0, 3, 1, 2, 3, 4, 1, 5, 6, 7},
		api.MPrePrepare: append([]byte{2}, phase...),
		api.MPrepare:    append([]byte{3}, phase...),
		api.MCommit:     append([]byte{4}, phase...),
		api.MCheckpoint: {5, 2, 1, 7, 0, 0, 0, 8, 0x81, 2, 3, 4, 5, 6, 7, 8},
		api.MVote:       append([]byte{6, 2, 1, 7}, ballot(2)...),
		api.MNewView:    slices.Concat([]byte{7, 2, 1, 7, 0, 0, 0, 3, 3}, ballot(0), ballot(1), ballot(3)),
		api.MNewKey:     {8, 2, 1, 7, 7},
		api.MQuery:      {9, 2, 1, 7, 7},
		api.MEstimate:   {10, 2, 1, 7, 9, 0, 0, 0, 12},
		api.MFetch:      {11, 2, 1, 7, 0, 0, 0, 12, 8},
		api.MSums: {12, 2, 1, 7, 0, 0, 0, 12, 0, 0, 0, 0, 0, 0, 0, 1, 0, 0, 0, 0, 0, 0, 0, 2, 0, 0, 0, 0, 0, 0, 0, 3, 0, 0, 0, 0, 0, 0, 0, 4,
			0, 0, 0, 0, 0, 0, 0, 5, 0, 0, 0, 0, 0, 0, 0, 6, 0, 0, 0, 0, 0, 0, 0, 7, 255, 255, 255, 255, 255, 255, 255, 255},
		api.MPage:  {13, 2, 1, 7, 0, 0, 0, 12, 7, 0, 3, 'a', 'b', 'c'},
		api.MReply: {14, 2, 12, 7, 0, 0, 0, 5, 2, 0, 0, 0, 9, 2, 63, 0, 0, 0x81, 2, 3, 4},
	} {
		if b, e := Encode(plain(k)); e != api.OK || !bytes.Equal(b, want) {
			t.Errorf("kind %d: %v, % x", k, e, b)
		}
		if m, e := Decode(want); e != api.OK || !Same(m, plain(k)) {
			t.Errorf("kind %d: %v, %+v", k, e, m)
		}
	}
}

// P3.3
func TestChaptersExample(t *testing.T) {
	m := api.Msg{Kind: api.MNewKey, From: 1, To: 2, Epoch: 3, Count: 3}
	want := []byte{8, 1, 2, 3, 3}
	if b, e := Encode(m); e != api.OK || !bytes.Equal(b, want) {
		t.Errorf("%v, % x", e, b)
	}
	if back, e := Decode(want); e != api.OK || !Same(back, m) {
		t.Errorf("%v, %+v", e, back)
	}
}

// P3.3
func TestNoMessagesBytes(t *testing.T) {
	for i, m := range []api.Msg{
		{},
		{Kind: 15, From: 2, To: 1, Epoch: 7},
		{Kind: 255},
		{Kind: api.MNewKey, From: 1, To: 2, Epoch: 3, Count: 4},
		{Kind: api.MNewKey, From: 4, To: 2, Epoch: 3, Count: 3},
		{Kind: api.MPage, From: 1, To: 2, Epoch: 3, Data: make([]byte, 65)},
		{Kind: api.MPage, From: 1, To: 2, Epoch: 3, Data: make([]byte, api.MaxBytes+1)},
		{Kind: api.MNewView, From: 1, To: 2, Epoch: 3, View: 1, Votes: make([]api.Vote, 5)},
	} {
		if b, e := Encode(m); e != api.ErrForm || len(b) > 0 {
			t.Errorf("row %d: %v, % x", i, e, b)
		}
	}
}

// greatest is the message with the most bytes that there is.
func greatest() api.Msg {
	m := api.Msg{Kind: api.MNewView, From: 3, To: 3, Epoch: api.MaxEpoch, View: api.MaxView}
	for i := range api.Replicas {
		v := api.Vote{From: uint8(i), Epoch: api.MaxEpoch, View: api.MaxView, Low: api.MaxSeq}
		for k := range api.MaxList {
			n := uint32(api.MaxSeq - api.MaxList + 1 + k)
			e := api.Entry{Seq: n, View: api.MaxView, Req: put(4, math.MaxUint32, 63, math.MaxUint16)}
			v.Marks = append(v.Marks, api.Mark{Seq: n, Root: math.MaxUint64})
			v.P, v.Q = append(v.P, e), append(v.Q, e)
		}
		m.Votes = append(m.Votes, v)
	}
	return m
}

// P3.3: no message has MaxBytes bytes or more; the greatest one is told.
func TestGreatestMessage(t *testing.T) {
	m := greatest()
	b, e := Encode(m)
	vote := 2 + 2*4 + 3 + api.MaxList*(12+17+17)
	if e != api.OK || len(b) != 4+4+1+api.Replicas*vote {
		t.Fatalf("%v, %d bytes", e, len(b))
	}
	if back, e := Decode(b); e != api.OK || !Same(m, back) {
		t.Errorf("%v", e)
	}
	for _, n := range []int{api.MaxBytes, api.MaxBytes + 1, 100000} {
		if back, e := Decode(append(slices.Clone(b), make([]byte, n-len(b))...)); !isFault(e) || !Same(back, api.Msg{}) {
			t.Errorf("%d bytes: %v", n, e)
		}
	}
}

func isFault(e api.Errno) bool {
	return e == api.ErrShort || e == api.ErrLong || e == api.ErrForm
}

// drawn is a message whose words are drawn at random, within their bounds.
func drawn(r *rand.Rand, kind uint8) api.Msg {
	m := api.Msg{Kind: kind, From: uint8(r.Intn(4)), To: uint8(r.Intn(4)), Epoch: uint8(1 + r.Intn(200))}
	n := uint32(r.Intn(api.MaxSeq + 1))
	switch kind {
	case api.MRequest:
		m.Req = drawnReq(r, false)
		m.From, m.Epoch = 10+m.Req.Client, 0
	case api.MPrePrepare, api.MPrepare, api.MCommit:
		m.View, m.Seq, m.Req = uint32(r.Intn(api.MaxView+1)), uint32(1+r.Intn(api.MaxSeq)), drawnReq(r, true)
	case api.MCheckpoint:
		m.Seq, m.Root = n, r.Uint64()
	case api.MVote:
		m.Vote = drawnVote(r, m.From, uint32(1+r.Intn(api.MaxView)))
		m.Epoch = m.Vote.Epoch
	case api.MNewView:
		m.View = uint32(1 + r.Intn(api.MaxView))
		for i := range api.Replicas {
			if r.Intn(3) > 0 {
				m.Votes = append(m.Votes, drawnVote(r, uint8(i), m.View))
			}
		}
	case api.MNewKey, api.MQuery:
		m.Count = m.Epoch
	case api.MEstimate:
		m.Seq, m.Count = n, uint8(r.Intn(256))
	case api.MFetch:
		m.Seq, m.Page = n, uint8(r.Intn(api.Pages+1))
	case api.MSums:
		m.Seq = n
		for range api.Pages {
			m.Sums = append(m.Sums, r.Uint64())
		}
	case api.MPage:
		m.Seq, m.Page, m.Data = n, uint8(r.Intn(api.Pages)), make([]byte, r.Intn(api.MaxPage+1))
		r.Read(m.Data)
	case api.MReply:
		m.View, m.Req, m.Result = uint32(r.Intn(api.MaxView+1)), drawnReq(r, false), r.Uint32()
		m.To = 10 + m.Req.Client
	}
	return m
}

func drawnReq(r *rand.Rand, null bool) api.Request {
	if null && r.Intn(4) == 0 {
		return api.Request{}
	}
	q := request(uint8(1+r.Intn(4)), 1+uint32(r.Intn(math.MaxUint32)), uint8(1+r.Intn(3)), uint8(r.Intn(64)), uint16(r.Intn(65536)))
	if q.Op.Kind == api.OpGet {
		q.Op.Val = 0
	}
	return q
}

func drawnVote(r *rand.Rand, from uint8, n uint32) api.Vote {
	v := api.Vote{From: from, Epoch: uint8(1 + r.Intn(200)), View: n, Low: uint32(r.Intn(api.MaxSeq + 1))}
	places := func() []uint32 {
		var list []uint32
		at := uint32(0)
		for range r.Intn(api.MaxList + 1) {
			at += uint32(1 + r.Intn(api.MaxSeq/api.MaxList))
			list = append(list, at)
		}
		return list
	}
	for _, p := range places() {
		v.Marks = append(v.Marks, api.Mark{Seq: p, Root: r.Uint64()})
	}
	for _, p := range places() {
		v.P = append(v.P, api.Entry{Seq: p, View: uint32(r.Intn(api.MaxView + 1)), Req: drawnReq(r, true)})
	}
	for _, p := range places() {
		v.Q = append(v.Q, api.Entry{Seq: p, View: uint32(r.Intn(api.MaxView + 1)), Req: drawnReq(r, true)})
	}
	return v
}

// P3.4
func TestThereAndBack(t *testing.T) {
	r := rand.New(rand.NewSource(1))
	for _, k := range kinds() {
		for range 200 {
			m := drawn(r, k)
			b, e := Encode(m)
			back, f := Decode(b)
			if !Is(m) || e != api.OK || f != api.OK || !Same(m, back) {
				t.Fatalf("kind %d: %v, %v, %+v", k, e, f, m)
			}
			if again, e := Encode(back); e != api.OK || !bytes.Equal(b, again) {
				t.Fatalf("kind %d: %v, % x", k, e, again)
			}
		}
	}
}

// checkBytes fails if b is taken though no message has these bytes, or is
// refused with anything beside the error.
func checkBytes(t *testing.T, b []byte) {
	t.Helper()
	m, e := Decode(b)
	if e != api.OK {
		if !isFault(e) || !Same(m, api.Msg{}) {
			t.Errorf("% x: %v, %+v", b, e, m)
		}
		return
	}
	if back, f := Encode(m); f != api.OK || !bytes.Equal(b, back) {
		t.Errorf("% x: taken, but it is % x", b, back)
	}
}

// P3.4
func TestSpoiledBytes(t *testing.T) {
	for _, k := range kinds() {
		b, _ := Encode(plain(k))
		for n := range b {
			if m, e := Decode(b[:n]); !isFault(e) || !Same(m, api.Msg{}) {
				t.Errorf("kind %d cut off at %d: %v", k, n, e)
			}
			for bit := range 255 {
				x := slices.Clone(b)
				x[n] ^= byte(bit + 1)
				checkBytes(t, x)
			}
		}
		for n := range 256 {
			if m, e := Decode(append(slices.Clone(b), byte(n))); !isFault(e) || !Same(m, api.Msg{}) {
				t.Errorf("kind %d with %d behind: %v", k, n, e)
			}
		}
	}
}

// P3.4: well-formed bytes whose words are out of bounds are no message's.
func TestBytesOutOfBounds(t *testing.T) {
	for i, b := range [][]byte{
		{0, 1, 2, 3, 3},
		{15, 1, 2, 3, 3},
		{8, 4, 2, 3, 3},
		{8, 1, 4, 3, 3},
		{8, 1, 2, 0, 0},
		{8, 1, 2, 201, 201},
		{8, 1, 2, 3, 4},
		{1, 11, 2, 1, 1, 0, 0, 0, 1, 1, 1, 0, 1},
		{1, 12, 2, 0, 1, 0, 0, 0, 1, 1, 1, 0, 1},
		{1, 10, 2, 0, 0, 0, 0, 0, 0, 0, 0, 0, 0},
		{2, 1, 2, 3, 0, 0, 0, 0, 0, 0, 0, 0, 0, 0, 0, 0, 0, 0, 0, 0, 0},
		{11, 1, 2, 3, 0, 0, 0, 0, 9},
		{13, 1, 2, 3, 0, 0, 0, 0, 8, 0, 0},
		append([]byte{13, 1, 2, 3, 0, 0, 0, 0, 7, 0, 65}, make([]byte, 65)...),
		{7, 1, 2, 3, 0, 0, 0, 0, 0},
		append([]byte{7, 1, 2, 3, 0, 0, 0, 1, 5}, make([]byte, 5*13)...),
		append([]byte{6, 1, 2, 3, 1, 3, 0, 0, 0, 1, 0, 0, 0, 0, 41}, make([]byte, 41*12+2)...),
		append([]byte{6, 1, 2, 3, 1, 3, 0, 0, 0, 1, 0, 0, 0, 0, 0, 41}, make([]byte, 41*17+1)...),
		append([]byte{6, 1, 2, 3, 1, 3, 0, 0, 0, 1, 0, 0, 0, 0, 0, 0, 41}, make([]byte, 41*17)...),
	} {
		if m, e := Decode(b); !isFault(e) || !Same(m, api.Msg{}) {
			t.Errorf("row %d: %v, %+v", i, e, m)
		}
	}
}

// changes are each of one word, element or length of a message.
func changes() []func(m *api.Msg) {
	vote := func(change func(v *api.Vote)) []func(m *api.Msg) {
		return []func(m *api.Msg){
			func(m *api.Msg) { change(&m.Vote) },
			func(m *api.Msg) { change(&m.Votes[0]) },
			func(m *api.Msg) { change(&m.Votes[1]) },
		}
	}
	all := []func(m *api.Msg){
		func(m *api.Msg) { m.Kind++ },
		func(m *api.Msg) { m.From++ },
		func(m *api.Msg) { m.To++ },
		func(m *api.Msg) { m.Epoch++ },
		func(m *api.Msg) { m.View++ },
		func(m *api.Msg) { m.Seq++ },
		func(m *api.Msg) { m.Req.Client++ },
		func(m *api.Msg) { m.Req.Ts++ },
		func(m *api.Msg) { m.Req.Op.Kind++ },
		func(m *api.Msg) { m.Req.Op.Key++ },
		func(m *api.Msg) { m.Req.Op.Val++ },
		func(m *api.Msg) { m.Root += 1 << 63 },
		func(m *api.Msg) { m.Count++ },
		func(m *api.Msg) { m.Page++ },
		func(m *api.Msg) { m.Result++ },
		func(m *api.Msg) { m.Votes = m.Votes[:1] },
		func(m *api.Msg) { m.Votes = nil },
		func(m *api.Msg) { m.Votes = append(m.Votes, api.Vote{}) },
		func(m *api.Msg) { m.Sums[0]++ },
		func(m *api.Msg) { m.Sums[2] += 1 << 63 },
		func(m *api.Msg) { m.Sums = m.Sums[:2] },
		func(m *api.Msg) { m.Sums = append(m.Sums, 0) },
		func(m *api.Msg) { m.Data[0]++ },
		func(m *api.Msg) { m.Data[1]++ },
		func(m *api.Msg) { m.Data = m.Data[:1] },
		func(m *api.Msg) { m.Data = append(m.Data, 0) },
	}
	for _, change := range []func(v *api.Vote){
		func(v *api.Vote) { v.From++ },
		func(v *api.Vote) { v.Epoch++ },
		func(v *api.Vote) { v.View++ },
		func(v *api.Vote) { v.Low++ },
		func(v *api.Vote) { v.Marks[1].Seq++ },
		func(v *api.Vote) { v.Marks[0].Root++ },
		func(v *api.Vote) { v.Marks = v.Marks[:1] },
		func(v *api.Vote) { v.Marks = append(v.Marks, api.Mark{}) },
		func(v *api.Vote) { v.P[0].Seq++ },
		func(v *api.Vote) { v.P[1].View++ },
		func(v *api.Vote) { v.P[1].Req.Op.Val++ },
		func(v *api.Vote) { v.P = v.P[:1] },
		func(v *api.Vote) { v.P = append(v.P, api.Entry{}) },
		func(v *api.Vote) { v.Q[0].Seq++ },
		func(v *api.Vote) { v.Q[1].View++ },
		func(v *api.Vote) { v.Q[2].Req.Client++ },
		func(v *api.Vote) { v.Q = nil },
		func(v *api.Vote) { v.Q = append(v.Q, api.Entry{}) },
	} {
		all = append(all, vote(change)...)
	}
	return all
}

// full has every word and list, so it is no message; Same takes it all the same.
func full() api.Msg {
	return api.Msg{
		Kind: 255, From: 1, To: 255, Epoch: 3, View: 4, Seq: 5, Req: put(1, 2, 3, 4), Root: 6, Count: 7, Page: 8, Result: 9,
		Vote: plainVote(), Votes: []api.Vote{plainVote(), plainVote()}, Sums: []uint64{1, 2, 3}, Data: []byte{4, 5},
	}
}

// P3.4
func TestSame(t *testing.T) {
	if !Same(api.Msg{}, api.Msg{}) || !Same(full(), full()) {
		t.Error("alike")
	}
	for i, change := range changes() {
		m := full()
		change(&m)
		if Same(m, full()) || Same(full(), m) {
			t.Errorf("row %d: not alike", i)
		}
		n := full()
		change(&n)
		if !Same(m, n) {
			t.Errorf("row %d: alike", i)
		}
	}
	for _, a := range kinds() {
		for _, b := range kinds() {
			if Same(plain(a), plain(b)) != (a == b) {
				t.Errorf("kinds %d, %d", a, b)
			}
		}
	}
}

// P3.4
func TestText(t *testing.T) {
	for _, c := range []struct {
		r    api.Request
		want string
	}{
		{api.Request{}, "0:0:0:0:0"},
		{put(1, 2, 3, 4), "1:2:1:3:4"},
		{request(10, 200, 3, 0, 60000), "10:200:3:0:60000"},
		{request(4, math.MaxUint32, api.OpAdd, 63, math.MaxUint16), "4:4294967295:3:63:65535"},
		{request(255, math.MaxUint32, 255, 255, math.MaxUint16), "255:4294967295:255:255:65535"},
	} {
		if Text(c.r) != c.want {
			t.Errorf("%s, not %s", Text(c.r), c.want)
		}
	}
	for n := range 256 {
		r := request(uint8(n), uint32(n)*7, uint8(255-n), uint8(n), uint16(n)*3)
		want := strconv.Itoa(n) + ":" + strconv.Itoa(7*n) + ":" + strconv.Itoa(255-n) + ":" + strconv.Itoa(n) + ":" + strconv.Itoa(3*n)
		if Text(r) != want {
			t.Errorf("%s, not %s", Text(r), want)
		}
	}
}

// P3.5
func TestWhateverBytes(t *testing.T) {
	checkBytes(t, nil)
	checkBytes(t, []byte{})
	if _, e := Decode(nil); e == api.OK {
		t.Error("no bytes are no message")
	}
	for n := range 256 {
		checkBytes(t, []byte{byte(n)})
		if _, e := Decode([]byte{byte(n)}); e == api.OK {
			t.Errorf("%d is no message", n)
		}
		for _, size := range []int{2, 4, 5, 9, 13, 21, 40, 72, 500, api.MaxBytes, api.MaxBytes + 1, 70000} {
			checkBytes(t, bytes.Repeat([]byte{byte(n)}, size))
			b := bytes.Repeat([]byte{255}, size)
			b[0] = byte(n)
			checkBytes(t, b)
			b = make([]byte, size)
			b[0] = byte(n)
			checkBytes(t, b)
		}
	}
	r := rand.New(rand.NewSource(5))
	for range 60000 {
		b := make([]byte, r.Intn(60))
		for i := range b {
			b[i] = byte(r.Intn(1 << (1 + r.Intn(8))))
		}
		if len(b) > 0 {
			b[0] = byte(r.Intn(16))
		}
		checkBytes(t, b)
	}
}

// P3.5
func TestTurnedBytes(t *testing.T) {
	r := rand.New(rand.NewSource(6))
	for _, k := range kinds() {
		for range 400 {
			b, _ := Encode(drawn(r, k))
			for range 1 + r.Intn(3) {
				b[r.Intn(len(b))] = byte(r.Intn(256))
			}
			checkBytes(t, b)
			checkBytes(t, b[:r.Intn(len(b)+1)])
		}
	}
}

// roomy is b with other bytes behind it, which nobody may touch.
func roomy[T any](list []T, behind T) []T {
	wide := append(slices.Clone(list), behind, behind)
	return wide[:len(list)]
}

// P3.3, P3.4: what is handed in is neither changed nor kept.
func TestArgumentsAreLeft(t *testing.T) {
	for _, k := range kinds() {
		m := plain(k)
		m.Data, m.Sums = roomy(m.Data, 77), roomy(m.Sums, 77)
		m.Votes = roomy(m.Votes, voteOf(1, 77))
		m.Vote.P, m.Vote.Q = roomy(m.Vote.P, api.Entry{Seq: 77}), roomy(m.Vote.Q, api.Entry{Seq: 77})
		m.Vote.Marks = roomy(m.Vote.Marks, api.Mark{Seq: 77})
		b, _ := Encode(m)
		want := slices.Clone(b)
		Is(m)
		Same(m, m)
		spare := m.Data[:len(m.Data)+2]
		if !Same(m, plain(k)) || spare[len(spare)-1] != 77 || m.Sums[:len(m.Sums)+2][len(m.Sums)] != 77 ||
			m.Votes[:len(m.Votes)+1][len(m.Votes)].View != 77 || m.Vote.P[:len(m.Vote.P)+1][len(m.Vote.P)].Seq != 77 ||
			m.Vote.Q[:len(m.Vote.Q)+1][len(m.Vote.Q)].Seq != 77 || m.Vote.Marks[:len(m.Vote.Marks)+1][len(m.Vote.Marks)].Seq != 77 {
			t.Errorf("kind %d: changed", k)
		}
		spoil(&m)
		if !bytes.Equal(b, want) {
			t.Errorf("kind %d: the bytes share the message's memory", k)
		}
		wide := roomy(want, 99)
		back, _ := Decode(wide)
		if !bytes.Equal(wide[:len(want)+2], append(slices.Clone(want), 99, 99)) {
			t.Errorf("kind %d: bytes changed", k)
		}
		for i := range wide {
			wide[i] = 0xaa
		}
		if !Same(back, plain(k)) {
			t.Errorf("kind %d: the message shares the bytes' memory", k)
		}
	}
}

// spoil writes over all that hangs on m, the spare room too.
func spoil(m *api.Msg) {
	wipe(m.Data, 0xaa)
	wipe(m.Sums, 0xaa)
	for i := range m.Votes {
		spoilVote(&m.Votes[i])
	}
	wipe(m.Votes, api.Vote{From: 0xaa})
	spoilVote(&m.Vote)
}

func spoilVote(v *api.Vote) {
	wipe(v.Marks, api.Mark{Seq: 0xaa})
	wipe(v.P, api.Entry{Seq: 0xaa})
	wipe(v.Q, api.Entry{Seq: 0xaa})
}

func wipe[T any](list []T, with T) {
	list = list[:cap(list)]
	for i := range list {
		list[i] = with
	}
}

// P3.3, P3.4: each answer is new memory, and so is each list in it.
func TestAnswersAreNew(t *testing.T) {
	for _, k := range kinds() {
		b, _ := Encode(plain(k))
		c, _ := Encode(plain(k))
		wipe(b, 0xaa)
		d, _ := Encode(plain(k))
		if !bytes.Equal(c, d) {
			t.Errorf("kind %d: bytes share memory", k)
		}
		one, _ := Decode(c)
		two, _ := Decode(c)
		spoil(&one)
		if !Same(two, plain(k)) {
			t.Errorf("kind %d: messages share memory", k)
		}
	}
	b, _ := Encode(plain(api.MNewView))
	m, _ := Decode(b)
	spoilVote(&m.Votes[0])
	wipe(m.Votes[1].P, api.Entry{Seq: 0xaa})
	want := plain(api.MNewView)
	if !sameVote(m.Votes[2], want.Votes[2]) || !slices.Equal(m.Votes[1].Q, want.Votes[1].Q) || !slices.Equal(m.Votes[1].Marks, want.Votes[1].Marks) {
		t.Error("lists of one message share memory")
	}
}
