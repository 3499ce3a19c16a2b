package mserver

import (
	"lamella/api"
	"lamella/hold"
	"lamella/lane"
	"lamella/proto"
	"lamella/stripe"
)

// peer is a data server: the line to it, whose body is the request that is outstanding, and what it has answered that it knows of files.
type peer struct {
	line  api.Line
	known map[uint32]knowledge
}

// knowledge is what a data server knows of a file: an epoch, or that it is gone.
type knowledge struct {
	epoch uint32
	gone  bool
}

// newPeer is a data server of which a server knows nothing yet.
func newPeer(life uint32) peer {
	return peer{line: api.Line{Life: life}, known: make(map[uint32]knowledge)}
}

// fenced says whether a data server knows an epoch.
func (n *peer) fenced(file, epoch uint32) bool {
	k, told := n.known[file]
	return told && k.epoch == epoch
}

// freed says whether a data server knows that a file is gone.
func (n *peer) freed(file uint32) bool { return n.known[file].gone }

// asked is the request that is outstanding.
func (n *peer) asked() api.Packet {
	p, _ := proto.Read(n.line.Body)
	p.Life, p.Seq, p.Asked = n.line.Life, n.line.Seq, n.line.Boot
	return p
}

// retry lets a tick go by for a data server's line.
func (s *Server) retry(n *peer) {
	line, due := lane.Tick(n.line)
	n.line = line
	if due {
		s.send(n.asked())
	}
}

// ask sends a request to a data server for which nothing is outstanding.
func (s *Server) ask(server int, o api.Op) {
	n := &s.peers[server-1]
	body, _ := proto.Write(api.Packet{Kind: api.PackAsk, From: meta, To: server, Op: o})
	line, e := lane.Ask(n.line, body)
	if e == api.OK {
		n.line = line
		s.send(n.asked())
	}
}

// hear takes a data server's reply.
func (s *Server) hear(p api.Packet) {
	n := &s.peers[p.From-1]
	asked := n.asked().Op
	line, told := lane.Hear(n.line, p.Life, p.Boot, p.Asked, p.Seq)
	n.line = line
	switch told {
	case api.Reboot:
		for _, j := range s.jobs {
			j.parts[p.From-1].restart()
		}
	case api.Answer:
		s.answered(p.From, asked, p.Op)
	}
}

// answered takes a data server's answer to a request.
func (s *Server) answered(server int, asked, told api.Op) {
	n := &s.peers[server-1]
	switch asked.Code {
	case api.OpFence:
		if told.Err == api.OK {
			n.known[asked.File] = knowledge{epoch: asked.Epoch}
			s.settle(asked.File, asked.Epoch)
		}
	case api.OpFree:
		if told.Err == api.OK {
			n.known[asked.File] = knowledge{gone: true}
			s.bury(asked.File)
		}
	default:
		s.jobs[asked.File].hear(server, told)
	}
}

// settle settles a lock if all data servers know its epoch, and it is still the one that was told. A file that is gone has no size with which that could be done.
func (s *Server) settle(file, epoch uint32) {
	l, there := lockOf(s.state, file)
	if !there || l.Gone || l.Fenced || l.Epoch != epoch {
		return
	}
	if !s.all(func(n *peer) bool { return n.fenced(file, epoch) }) {
		return
	}
	l, _ = hold.Settle(l, epoch, sizeOf(s.state, file))
	if s.commit(withLock(s.state, l)) {
		s.unlearn(file)
	}
}

// all says whether all data servers are such.
func (s *Server) all(such func(n *peer) bool) bool {
	for i := range s.peers {
		if !such(&s.peers[i]) {
			return false
		}
	}
	return true
}

// bury removes the lock of a file if all data servers know that it is gone.
func (s *Server) bury(file uint32) {
	if s.all(func(n *peer) bool { return n.freed(file) }) && s.commit(withoutLock(s.state, file)) {
		s.unlearn(file)
	}
}

// unlearn drops what is no more needed: which data servers know a file's epoch.
func (s *Server) unlearn(file uint32) {
	for _, n := range s.peers {
		delete(n.known, file)
	}
}

// mapOf is how a file's bytes are spread.
func (s *Server) mapOf(file uint32) api.Map {
	servers := len(s.peers)
	return api.Map{Servers: servers, Unit: s.unit, Turn: int(file % uint32(servers))}
}

// due is the first request that a data server is to be sent, if there is one.
func (s *Server) due(server int) (api.Op, bool) {
	n := &s.peers[server-1]
	for _, l := range s.state.Locks {
		switch {
		case l.Gone:
			if !n.freed(l.File) {
				return api.Op{Code: api.OpFree, File: l.File}, true
			}
		case !l.Fenced:
			if !n.fenced(l.File, l.Epoch) {
				return s.fence(server, l), true
			}
		default:
			if j := s.jobs[l.File]; j != nil && !j.parts[server-1].finished() {
				return j.parts[server-1].next(), true
			}
		}
	}
	return api.Op{}, false
}

// fence is the request that makes a lock's epoch known to a data server.
func (s *Server) fence(server int, l api.Lock) api.Op {
	length, _ := stripe.Length(s.mapOf(l.File), server, int(l.Cut))
	return api.Op{Code: api.OpFence, File: l.File, Epoch: l.Epoch, Size: uint32(length)}
}
