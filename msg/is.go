package msg

import (
	"slices"

	"palisade/api"
)

// ahead is what a client's number has added to it where it stands beside
// those of replicas.
const ahead = 10

// IsReq tells whether r is a request: the null one, or one of a client.
func IsReq(r api.Request) bool {
	return r == api.Request{} ||
		isClient(r.Client) && r.Ts != 0 && isOp(r.Op)
}

func isClient(n uint8) bool { return n >= 1 && n <= api.Clients }

func isOp(o api.Op) bool {
	return o.Kind >= api.OpPut && o.Kind <= api.OpAdd && o.Key < api.Keys &&
		(o.Kind != api.OpGet || o.Val == 0)
}

// isRealReq tells whether r is a request, not the null one, of the client
// whose address is given.
func isRealReq(r api.Request, address uint8) bool {
	return r != api.Request{} && IsReq(r) && ahead+r.Client == address
}

// IsVote tells whether v is a vote for a view.
func IsVote(v api.Vote) bool {
	return isReplica(v.From) && isEpoch(v.Epoch) && isNewView(v.View) && isSeq(v.Low) &&
		areMarks(v.Marks) && areEntries(v.P, bySeq) && areEntries(v.Q, bySeqAndText)
}

func isReplica(n uint8) bool { return n < api.Replicas }

func isEpoch(n uint8) bool { return n >= 1 && n <= api.MaxEpoch }

func isView(n uint32) bool { return n <= api.MaxView }

// isNewView leaves out view 0, which nobody votes for: all begin in it.
func isNewView(n uint32) bool { return n >= 1 && isView(n) }

func isSeq(n uint32) bool { return n <= api.MaxSeq }

// isPlace leaves out 0: the first request stands at 1.
func isPlace(n uint32) bool { return n >= 1 && isSeq(n) }

func areMarks(list []api.Mark) bool {
	if len(list) > api.MaxList {
		return false
	}
	for i, k := range list {
		if !isSeq(k.Seq) || i > 0 && list[i-1].Seq >= k.Seq {
			return false
		}
	}
	return true
}

// areEntries tells whether each of list is an entry, and above the one ahead.
func areEntries(list []api.Entry, above func(a, b api.Entry) bool) bool {
	if len(list) > api.MaxList {
		return false
	}
	for i, e := range list {
		if !isEntry(e) || i > 0 && !above(e, list[i-1]) {
			return false
		}
	}
	return true
}

func isEntry(e api.Entry) bool {
	return isPlace(e.Seq) && isView(e.View) && IsReq(e.Req)
}

func bySeq(a, b api.Entry) bool { return a.Seq > b.Seq }

func bySeqAndText(a, b api.Entry) bool {
	if a.Seq != b.Seq {
		return a.Seq > b.Seq
	}
	return Text(a.Req) > Text(b.Req)
}

// Is tells whether m is a message.
func Is(m api.Msg) bool {
	own := parts(m.Kind)
	if len(own) == 0 || !isHead(m) || !Same(m, bare(m, own)) {
		return false
	}
	for _, p := range own {
		if !fits(m, p) {
			return false
		}
	}
	return true
}

// isHead leaves the addresses of clients to isRealReq: they hang on the request.
func isHead(m api.Msg) bool {
	switch m.Kind {
	case api.MRequest:
		return isReplica(m.To) && m.Epoch == 0
	case api.MReply:
		return isReplica(m.From) && isEpoch(m.Epoch)
	}
	return isReplica(m.From) && isReplica(m.To) && isEpoch(m.Epoch)
}

// bare is m with nothing but its head and the given parts.
func bare(m api.Msg, own []part) api.Msg {
	b := api.Msg{Kind: m.Kind, From: m.From, To: m.To, Epoch: m.Epoch}
	for _, p := range own {
		switch p {
		case view:
			b.View = m.View
		case seq:
			b.Seq = m.Seq
		case req:
			b.Req = m.Req
		case root:
			b.Root = m.Root
		case count:
			b.Count = m.Count
		case page:
			b.Page = m.Page
		case result:
			b.Result = m.Result
		case vote:
			b.Vote = m.Vote
		case votes:
			b.Votes = m.Votes
		case sums:
			b.Sums = m.Sums
		case data:
			b.Data = m.Data
		}
	}
	return b
}

// fits tells whether a part of m is as m's kind asks. Root and Result may be
// anything.
func fits(m api.Msg, p part) bool {
	switch p {
	case view:
		return isView(m.View) && (m.Kind != api.MNewView || isNewView(m.View))
	case seq:
		return isSeq(m.Seq) && (!isPhase(m.Kind) || isPlace(m.Seq))
	case req:
		return fitsReq(m)
	case count:
		return m.Kind == api.MEstimate || m.Count == m.Epoch
	case page:
		return m.Page < api.Pages || m.Kind == api.MFetch && m.Page == api.Pages
	case vote:
		return IsVote(m.Vote) && m.Vote.From == m.From && m.Vote.Epoch == m.Epoch
	case votes:
		return fitVotes(m.Votes, m.View)
	case sums:
		return len(m.Sums) == api.Pages
	case data:
		return len(m.Data) <= api.MaxPage
	}
	return true
}

// isPhase tells the kinds by which a request is laid at a place.
func isPhase(kind uint8) bool {
	return kind >= api.MPrePrepare && kind <= api.MCommit
}

func fitsReq(m api.Msg) bool {
	switch m.Kind {
	case api.MRequest:
		return isRealReq(m.Req, m.From)
	case api.MReply:
		return isRealReq(m.Req, m.To)
	}
	return IsReq(m.Req)
}

func fitVotes(list []api.Vote, n uint32) bool {
	if len(list) > api.Replicas {
		return false
	}
	for i, v := range list {
		if i > 0 && list[i-1].From >= v.From {
			return false
		}
	}
	return !slices.ContainsFunc(list, func(v api.Vote) bool { return v.View != n || !IsVote(v) })
}
