package msg

import (
	"palisade/api"
	"palisade/wire"
)

// Encode tells a message's bytes.
func Encode(m api.Msg) ([]byte, api.Errno) {
	if !Is(m) {
		return nil, api.ErrForm
	}
	w := wire.New()
	w.U8(m.Kind)
	w.U8(m.From)
	w.U8(m.To)
	w.U8(m.Epoch)
	for _, p := range parts(m.Kind) {
		write(w, m, p)
	}
	b := w.All()
	if len(b) > api.MaxBytes {
		return nil, api.ErrLong
	}
	return b, api.OK
}

func write(w *wire.Writer, m api.Msg, p part) {
	switch p {
	case view:
		w.U32(m.View)
	case seq:
		w.U32(m.Seq)
	case req:
		writeReq(w, m.Req)
	case root:
		w.U64(m.Root)
	case count:
		w.U8(m.Count)
	case page:
		w.U8(m.Page)
	case result:
		w.U32(m.Result)
	case vote:
		writeVote(w, m.Vote)
	case votes:
		w.U8(uint8(len(m.Votes)))
		for _, v := range m.Votes {
			writeVote(w, v)
		}
	case sums:
		for _, n := range m.Sums {
			w.U64(n)
		}
	case data:
		w.Bytes(m.Data)
	}
}

func writeReq(w *wire.Writer, r api.Request) {
	w.U8(r.Client)
	w.U32(r.Ts)
	w.U8(r.Op.Kind)
	w.U8(r.Op.Key)
	w.U16(r.Op.Val)
}

func writeVote(w *wire.Writer, v api.Vote) {
	w.U8(v.From)
	w.U8(v.Epoch)
	w.U32(v.View)
	w.U32(v.Low)
	w.U8(uint8(len(v.Marks)))
	for _, k := range v.Marks {
		w.U32(k.Seq)
		w.U64(k.Root)
	}
	writeEntries(w, v.P)
	writeEntries(w, v.Q)
}

func writeEntries(w *wire.Writer, list []api.Entry) {
	w.U8(uint8(len(list)))
	for _, e := range list {
		w.U32(e.Seq)
		w.U32(e.View)
		writeReq(w, e.Req)
	}
}

// Decode tells the message whose bytes are b.
func Decode(b []byte) (api.Msg, api.Errno) {
	if len(b) > api.MaxBytes {
		return api.Msg{}, api.ErrLong
	}
	s := &source{from: wire.Open(b)}
	m := api.Msg{Kind: s.u8(), From: s.u8(), To: s.u8(), Epoch: s.u8()}
	for _, p := range parts(m.Kind) {
		s.read(&m, p)
	}
	switch {
	case s.fault != api.OK:
		return api.Msg{}, s.fault
	case !Is(m):
		return api.Msg{}, api.ErrForm
	case s.from.Left() > 0:
		return api.Msg{}, api.ErrLong
	}
	return m, api.OK
}

// source keeps the first fault of a reader, so that what is read piece by
// piece is asked for it once, at the end. Behind a fault all it reads is zero.
type source struct {
	from  *wire.Reader
	fault api.Errno
}

// get reads by one of the reader's own methods, as long as there is no fault:
// behind one a shorter number might still be there.
func get[T any](s *source, read func() (T, api.Errno)) T {
	var none T
	if s.fault != api.OK {
		return none
	}
	n, fault := read()
	if fault != api.OK {
		s.fault = fault
		return none
	}
	return n
}

func (s *source) u8() uint8   { return get(s, s.from.U8) }
func (s *source) u16() uint16 { return get(s, s.from.U16) }
func (s *source) u32() uint32 { return get(s, s.from.U32) }
func (s *source) u64() uint64 { return get(s, s.from.U64) }

func (s *source) read(m *api.Msg, p part) {
	switch p {
	case view:
		m.View = s.u32()
	case seq:
		m.Seq = s.u32()
	case req:
		m.Req = s.req()
	case root:
		m.Root = s.u64()
	case count:
		m.Count = s.u8()
	case page:
		m.Page = s.u8()
	case result:
		m.Result = s.u32()
	case vote:
		m.Vote = s.vote()
	case votes:
		m.Votes = list(s, int(s.u8()), api.Replicas, s.vote)
	case sums:
		m.Sums = list(s, api.Pages, api.Pages, s.u64)
	case data:
		m.Data = get(s, func() ([]byte, api.Errno) { return s.from.Bytes(api.MaxPage) })
	}
}

// list reads n things one by one; more than most are no message's.
func list[T any](s *source, n, most int, one func() T) []T {
	if n > most && s.fault == api.OK {
		s.fault = api.ErrForm
	}
	if s.fault != api.OK {
		return nil
	}
	all := make([]T, n)
	for i := range all {
		all[i] = one()
	}
	return all
}

// The calls within one literal run from left to right, as the bytes lie.

func (s *source) req() api.Request {
	return api.Request{
		Client: s.u8(),
		Ts:     s.u32(),
		Op:     api.Op{Kind: s.u8(), Key: s.u8(), Val: s.u16()},
	}
}

func (s *source) mark() api.Mark {
	return api.Mark{Seq: s.u32(), Root: s.u64()}
}

func (s *source) entry() api.Entry {
	return api.Entry{Seq: s.u32(), View: s.u32(), Req: s.req()}
}

func (s *source) vote() api.Vote {
	return api.Vote{
		From: s.u8(), Epoch: s.u8(),
		View: s.u32(), Low: s.u32(),
		Marks: list(s, int(s.u8()), api.MaxList, s.mark),
		P:     list(s, int(s.u8()), api.MaxList, s.entry),
		Q:     list(s, int(s.u8()), api.MaxList, s.entry),
	}
}
