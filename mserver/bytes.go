package mserver

import (
	"lamella/api"
	"lamella/hold"
	"lamella/share"
)

// opened is the client's open of the request's handle, if it permits this access.
func (r *request) opened(access uint32) (api.Open, api.Errno) {
	o, there := share.Find(r.now.Opens, r.client, r.op.Handle)
	switch {
	case !there:
		return api.Open{}, api.ErrFd
	case o.Access&access == 0:
		return api.Open{}, api.ErrMode
	}
	return o, api.OK
}

// ask asks for a hold of a file for a node, and is the lock in which it is granted. Where it is put off, the lock may be turned all the same.
func (r *request) ask(file, node, mode uint32) (api.Lock, api.Errno) {
	r.wanted = file
	if r.server.behind(file, r.client) {
		return api.Lock{}, api.ErrDelay
	}
	l, _ := lockOf(r.now, file)
	l, told, _ := hold.Ask(l, node, mode)
	r.now = withLock(r.now, l)
	switch told {
	case api.Granted:
		return l, api.OK
	case api.Conflict:
		r.rival = &recall{client: node, mode: mode}
	}
	return api.Lock{}, api.ErrDelay
}

// size gives a file a size. The hold that it takes is gone with the epoch in which it was granted.
func (r *request) size() (api.Op, api.Errno) {
	o, e := r.opened(api.AccessWrite)
	if e != api.OK {
		return api.Op{}, e
	}
	if r.op.Size > api.MaxFile {
		return api.Op{}, api.ErrBig
	}
	l, e := r.ask(o.File, meta, api.HoldWrite)
	if e != api.OK {
		return api.Op{}, e
	}
	l, _ = hold.Shrink(l, r.op.Size)
	l, _ = hold.Revoke(l)
	r.now = withSize(withLock(r.now, l), o.File, r.op.Size)
	return api.Op{}, api.OK
}

// get grants a hold. The modes of holds are the bits of the access that they need.
func (r *request) get() (api.Op, api.Errno) {
	mode := r.op.Mode
	o, there := share.Find(r.now.Opens, r.client, r.op.Handle)
	switch {
	case !there:
		return api.Op{}, api.ErrFd
	case mode != api.HoldRead && mode != api.HoldWrite:
		return api.Op{}, api.ErrArg
	case o.Access&mode == 0:
		return api.Op{}, api.ErrMode
	}
	l, e := r.ask(o.File, r.client, mode)
	if e != api.OK {
		return api.Op{}, e
	}
	return api.Op{
		File: o.File, Epoch: l.Epoch,
		Size: sizeOf(r.now, o.File), Mode: hold.Mode(l, r.client),
	}, api.OK
}

// giveBack gives a hold back.
func (r *request) giveBack() (api.Op, api.Errno) {
	if l, there := lockOf(r.now, r.op.File); there {
		l, _ = hold.Return(l, r.client, r.op.Epoch)
		r.now = withLock(r.now, l)
	}
	return api.Op{}, api.OK
}

// grew takes note of how far a client has written.
func (r *request) grew() (api.Op, api.Errno) {
	file := r.op.File
	l, there := lockOf(r.now, file)
	if !there || r.op.Epoch != l.Epoch || hold.Mode(l, r.client) != api.HoldWrite {
		return api.Op{}, api.ErrRevoked
	}
	if r.op.Size > api.MaxFile {
		return api.Op{}, api.ErrBig
	}
	r.now = grown(r.now, file, r.op.Size)
	return api.Op{Size: sizeOf(r.now, file)}, api.OK
}

// give reads on behalf of the client.
func (r *request) give() (api.Op, api.Errno) {
	return r.work(api.AccessRead, r.op.Len, "")
}

// take writes on behalf of the client.
func (r *request) take() (api.Op, api.Errno) {
	return r.work(api.AccessWrite, uint32(len(r.op.Data)), r.op.Data)
}

// work makes the request a work, if there is anything to be done.
func (r *request) work(access, length uint32, data string) (api.Op, api.Errno) {
	o, e := r.opened(access)
	if e != api.OK {
		return api.Op{}, e
	}
	// The sum of 32 bits could wrap round.
	if length > api.MaxWrite || uint64(r.op.Off)+uint64(length) > api.MaxFile {
		return api.Op{}, api.ErrBig
	}
	if length == 0 {
		return api.Op{}, api.OK
	}
	if hasWork(r.now, o.File) {
		return api.Op{}, api.ErrDelay
	}
	r.now = withWork(r.now, api.Work{
		File: o.File, Client: r.client, Life: r.life, Seq: r.seq,
		Code: r.op.Code, Off: r.op.Off, Len: length, Data: data,
	})
	r.later = true
	return api.Op{}, api.OK
}
