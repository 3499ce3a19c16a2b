package mserver

import (
	"lamella/api"
	"lamella/hold"
	"lamella/lane"
	"lamella/share"
)

// request is a client's request while it is executed: the state as it is to be, and what else comes of it.
type request struct {
	server    *Server
	client    uint32
	life, seq uint32
	op        api.Op
	now       api.State
	// wanted is the file of which a hold was asked for; 0 if none was.
	wanted uint32
	// rival is the recall that is to begin, if others are in the way.
	rival *recall
	// later is whether the request became a work, which is answered when it ends.
	later bool
}

// handler executes a request, and answers what its answer has, or an error.
type handler func(r *request) (api.Op, api.Errno)

// handlers are the handlers of the codes; those below OpOpen are not the metadata server's.
func handlers() [api.OpTake + 1]handler {
	return [...]handler{
		api.OpOpen:   (*request).open,
		api.OpClose:  (*request).shut,
		api.OpMkdir:  (*request).mkdir,
		api.OpRemove: (*request).remove,
		api.OpRmdir:  (*request).rmdir,
		api.OpRename: (*request).rename,
		api.OpList:   (*request).list,
		api.OpStat:   (*request).stat,
		api.OpSize:   (*request).size,
		api.OpGet:    (*request).get,
		api.OpReturn: (*request).giveBack,
		api.OpGrew:   (*request).grew,
		api.OpGive:   (*request).give,
		api.OpTake:   (*request).take,
	}
}

// isRequest says whether a packet is a client's request of the metadata server.
func isRequest(p api.Packet) bool {
	return p.Kind == api.PackAsk &&
		p.From >= api.Client0 && p.From < api.Client0+api.MaxClients &&
		p.Op.Code >= api.OpOpen && p.Op.Code <= api.OpTake
}

// answerTo is the answer to a packet of a client: with an error nothing else.
func answerTo(p api.Packet, o api.Op, e api.Errno) api.Packet {
	if e != api.OK {
		o = api.Op{Err: e}
	}
	o.Code = p.Op.Code
	return api.Packet{
		Kind: api.PackReply, From: meta, To: p.From,
		Life: p.Life, Seq: p.Seq, Asked: p.Asked, Boot: boot,
		Op: o,
	}
}

// seatOf is a client's seat.
func seatOf(s api.State, client uint32) api.Seat {
	p := replyTo(s, client)
	return api.Seat{Life: p.Life, Seq: p.Seq}
}

// judge takes a client's request.
func (s *Server) judge(p api.Packet) {
	if p.Asked != boot {
		s.send(answerTo(p, api.Op{}, api.ErrBoot))
		return
	}
	client := uint32(p.From)
	seat := seatOf(s.state, client)
	switch lane.Judge(seat, p.Life, p.Seq) {
	case api.Again:
		s.send(replyTo(s.state, client))
	case api.New:
		begins := p.Life > seat.Life
		if !s.waits(client, p, begins) {
			s.execute(client, p, begins)
		}
	}
}

// waits says whether a new request is not executed now: it is a work already, or a life would begin while a work of the elder one is not done.
func (s *Server) waits(client uint32, p api.Packet, begins bool) bool {
	for _, w := range s.state.Works {
		if w.Client == client && (begins || w.Life == p.Life && w.Seq == p.Seq) {
			return true
		}
	}
	return false
}

// execute executes a new request: all that it changes is one commit.
func (s *Server) execute(client uint32, p api.Packet, begins bool) {
	r := &request{server: s, client: client, life: p.Life, seq: p.Seq, op: p.Op, now: s.state}
	if begins {
		r.leave()
	}
	o, e := handlers()[p.Op.Code](r)
	if r.later {
		s.commit(r.now)
		return
	}
	answer := answerTo(p, o, e)
	if !s.commit(withReply(r.now, answer)) {
		return
	}
	s.send(answer)
	if r.wanted == 0 {
		return
	}
	if e == api.ErrDelay {
		s.delay(r.wanted, client)
	} else {
		s.serve(r.wanted, client)
	}
	if r.rival != nil {
		s.beginRecall(r.wanted, r.rival.client, r.rival.mode)
	}
}

// leave takes from a client what its elder lives had: none of them is there to close it or to give it back.
func (r *request) leave() {
	r.server.forget(r.client)
	r.now.Opens, _ = share.Clear(r.now.Opens, r.client)
	for _, l := range r.now.Locks {
		if hold.Mode(l, r.client) != 0 {
			r.release(l.File)
		}
	}
}

// release gives back the hold that the client has of a file, if it has one.
func (r *request) release(file uint32) {
	if l, there := lockOf(r.now, file); there {
		l, _ = hold.Return(l, r.client, l.Epoch)
		r.now = withLock(r.now, l)
	}
}
