package mserver

import (
	"maps"
	"slices"

	"lamella/api"
	"lamella/hold"
)

// waiter is a client in a queue, and how many ticks ago it asked last.
type waiter struct {
	client uint32
	age    int
}

// recall is for whom, and in which mode, others are asked to give a file back, and for how many ticks.
type recall struct {
	client, mode uint32
	age          int
}

// filesOf are the files of a map, rising.
func filesOf[T any](m map[uint32]T) []uint32 { return slices.Sorted(maps.Keys(m)) }

// behind says whether a client must wait for others without asking for a file.
func (s *Server) behind(file, client uint32) bool {
	q := s.queues[file]
	return hasWork(s.state, file) || len(q) > 0 && q[0].client != client
}

// delay lets a client wait for a file, where it waits already or as the last one.
func (s *Server) delay(file, client uint32) {
	q := s.queues[file]
	at := slices.IndexFunc(q, func(w waiter) bool { return w.client == client })
	if at >= 0 {
		q[at].age = 0
	} else {
		s.queues[file] = append(q, waiter{client: client})
	}
}

// serve takes note that a client has what it asked of a file: it waits no more, and nobody is in the way.
func (s *Server) serve(file, client uint32) {
	s.keep(file, func(w waiter) bool { return w.client != client })
	delete(s.recalls, file)
}

// forget takes a client out of all queues.
func (s *Server) forget(client uint32) {
	for _, file := range filesOf(s.queues) {
		s.keep(file, func(w waiter) bool { return w.client != client })
	}
}

// keep leaves only such clients in the queue of a file as are to stay.
func (s *Server) keep(file uint32, stays func(w waiter) bool) {
	q := slices.DeleteFunc(s.queues[file], func(w waiter) bool { return !stays(w) })
	if len(q) == 0 {
		delete(s.queues, file)
	} else {
		s.queues[file] = q
	}
}

// age lets all who wait be a tick older; who hasn't asked again for too long waits no more.
func (s *Server) age() {
	for _, file := range filesOf(s.queues) {
		for i := range s.queues[file] {
			s.queues[file][i].age++
		}
		s.keep(file, func(w waiter) bool { return w.age <= api.QueueAge })
	}
}

// beginRecall begins a recall, unless there is one that others must answer yet.
func (s *Server) beginRecall(file, client, mode uint32) {
	l, _ := lockOf(s.state, file)
	if r, on := s.recalls[file]; on && len(hold.Others(l, r.client, r.mode)) > 0 {
		return
	}
	s.recalls[file] = recall{client: client, mode: mode}
	s.call(l, hold.Others(l, client, mode))
}

// call asks clients to give a file back.
func (s *Server) call(l api.Lock, holders []uint32) {
	for _, client := range holders {
		if client != meta {
			s.send(api.Packet{
				Kind: api.PackCall, From: meta, To: int(client),
				Op: api.Op{Code: api.OpRecall, File: l.File, Epoch: l.Epoch},
			})
		}
	}
}

// remind lets a file's recall be a tick older: who holds the file is asked again or, when the lease is over, holds it no more.
func (s *Server) remind(file uint32) {
	r := s.recalls[file]
	// A lock that isn't there has no holders, nor has one that is gone.
	l, _ := lockOf(s.state, file)
	others := hold.Others(l, r.client, r.mode)
	if len(others) == 0 {
		delete(s.recalls, file)
		return
	}
	// The server's own hold ends with its work, however long that takes.
	if slices.Equal(others, []uint32{meta}) {
		return
	}
	r.age++
	if r.age >= api.Lease {
		s.revoke(l)
		delete(s.recalls, file)
		return
	}
	s.recalls[file] = r
	if r.age%api.RecallGap == 1 {
		s.call(l, others)
	}
}

// revoke takes all holds of a file away.
func (s *Server) revoke(l api.Lock) {
	l, _ = hold.Revoke(l)
	s.commit(withLock(s.state, l))
}
