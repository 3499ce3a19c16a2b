package mserver

import (
	"slices"
	"strings"

	"lamella/api"
	"lamella/hold"
	"lamella/lane"
	"lamella/stripe"
)

// job is a work that was begun: its first error, and the parts that the data servers have in it, from 1 on.
type job struct {
	err   api.Errno
	frags []api.Frag
	parts []part
}

// part is what a data server is asked for a work, and what it told to the first of it; over is whether it answered an error, behind which it is asked no more.
type part struct {
	asks []api.Op
	told []string
	over bool
}

// restart lets a part begin anew.
func (p *part) restart() { p.told, p.over = nil, false }

// finished says whether nothing of a part is left to be asked.
func (p *part) finished() bool { return p.over || len(p.told) == len(p.asks) }

// next is what is asked next of a part that isn't finished.
func (p *part) next() api.Op { return p.asks[len(p.told)] }

// newJob begins a work, in the epoch in which the server holds its file.
func (s *Server) newJob(w api.Work, epoch uint32) *job {
	length := w.Len
	if w.Code == api.OpGive {
		size := sizeOf(s.state, w.File)
		length = min(length, size-min(size, w.Off))
	}
	j := &job{parts: make([]part, len(s.peers))}
	j.frags, _ = stripe.Frags(s.mapOf(w.File), int(w.Off), int(length))
	for _, f := range j.frags {
		o := api.Op{Code: api.OpRead, File: w.File, Epoch: epoch, Off: uint32(f.Off)}
		if w.Code == api.OpGive {
			o.Len = uint32(f.Len)
		} else {
			o.Code, o.Data = api.OpWrite, w.Data[f.At:f.At+f.Len]
		}
		p := &j.parts[f.Server-1]
		p.asks = append(p.asks, o)
	}
	for i := range j.parts {
		p := &j.parts[i]
		if w.Code == api.OpTake && len(p.asks) > 0 {
			p.asks = append(p.asks, api.Op{Code: api.OpCommit, File: w.File, Epoch: epoch})
		}
	}
	return j
}

// hear takes a data server's answer to what it was asked last.
func (j *job) hear(server int, told api.Op) {
	p := &j.parts[server-1]
	if told.Err == api.OK {
		p.told = append(p.told, told.Data)
		return
	}
	p.over = true
	switch {
	case j.err != api.OK:
	case told.Err == api.ErrFull:
		j.err = api.ErrFull
	default:
		j.err = api.ErrRevoked
	}
}

// finished says whether all parts are.
func (j *job) finished() bool {
	return !slices.ContainsFunc(j.parts, func(p part) bool { return !p.finished() })
}

// data are the bytes that were read, put together in the order of the file. No part had an error.
func (j *job) data() string {
	var b strings.Builder
	taken := make([]int, len(j.parts))
	for _, f := range j.frags {
		at := f.Server - 1
		b.WriteString(j.parts[at].told[taken[at]])
		taken[at]++
	}
	return b.String()
}

// proceed does what can be done now: it begins works, ends works, and sends the data servers what they are to be asked.
func (s *Server) proceed() {
	for _, w := range s.state.Works {
		if s.up && s.jobs[w.File] == nil {
			s.beginWork(w)
		}
	}
	for _, w := range s.state.Works {
		if j := s.jobs[w.File]; s.up && j != nil && j.finished() {
			s.endWork(w, j)
		}
	}
	for i := range s.peers {
		if s.up && !s.peers[i].line.Out {
			s.proceedWith(i + 1)
		}
	}
}

// proceedWith sends a data server the first request that is due.
func (s *Server) proceedWith(server int) {
	if o, due := s.due(server); due {
		s.ask(server, o)
	}
}

// beginWork begins a work if the server can hold its file. A hold that is granted to it need not be committed: a server that begins anew is granted it again, since the work is there still.
func (s *Server) beginWork(w api.Work) {
	was, _ := lockOf(s.state, w.File)
	l, told, _ := hold.Ask(was, meta, api.HoldWrite)
	now := withLock(s.state, l)
	if l.Epoch == was.Epoch {
		s.state = now
	} else if !s.commit(now) {
		return
	}
	switch told {
	case api.Granted:
		s.jobs[w.File] = s.newJob(w, l.Epoch)
		delete(s.recalls, w.File)
	case api.Conflict:
		s.beginRecall(w.File, meta, api.HoldWrite)
	}
}

// endWork ends a work of which nothing is left to be asked, and answers it.
func (s *Server) endWork(w api.Work, j *job) {
	now := withoutWork(s.state, w.File)
	l, _ := lockOf(now, w.File)
	l, _ = hold.Return(l, meta, l.Epoch)
	now = withLock(now, l)
	o := api.Op{Len: w.Len}
	switch {
	case j.err != api.OK:
	case w.Code == api.OpGive:
		o.Data = j.data()
		o.Len = uint32(len(o.Data))
	default:
		now = grown(now, w.File, w.Off+w.Len)
	}
	// Only a request for this boot becomes a work.
	p := api.Packet{From: int(w.Client), Life: w.Life, Seq: w.Seq, Asked: boot, Op: api.Op{Code: w.Code}}
	answer := answerTo(p, o, j.err)
	news := lane.Judge(seatOf(now, w.Client), w.Life, w.Seq) == api.New
	if news {
		now = withReply(now, answer)
	}
	if !s.commit(now) {
		return
	}
	delete(s.jobs, w.File)
	if news {
		s.send(answer)
	}
}
