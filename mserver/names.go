package mserver

import (
	"math"
	"slices"
	"strings"

	"lamella/api"
	"lamella/hold"
	"lamella/share"
	"lamella/tree"
)

// What the Mode of an OpOpen has: the access, and whether a file is made where there is none.
const (
	accessBits = 3
	createBit  = 4
)

// dirMode is the Mode that tells of a directory.
const dirMode = 1

// withNode is a state with a new file or directory.
func withNode(s api.State, path string, dir bool) (api.State, api.Errno) {
	if s.Next == math.MaxUint32 {
		return api.State{}, api.ErrMany
	}
	t, e := tree.Make(s.Tree, path, s.Next, dir)
	if e != api.OK {
		return api.State{}, e
	}
	s.Tree = t
	s.Next++
	return s, api.OK
}

// withFile is a state with a new file, and the file.
func withFile(s api.State, path string) (api.State, api.Inode, api.Errno) {
	if len(s.Locks) >= api.MaxNodes {
		return api.State{}, api.Inode{}, api.ErrMany
	}
	id := s.Next
	s, e := withNode(s, path, false)
	if e != api.OK {
		return api.State{}, api.Inode{}, e
	}
	// Its number is greater than all others, so that its lock is the last one.
	s.Locks = append(slices.Clone(s.Locks), hold.Fresh(id))
	n, _ := tree.Get(s.Tree, id)
	return s, n, api.OK
}

// open opens a file, and makes it first if it is to.
func (r *request) open() (api.Op, api.Errno) {
	now := r.now
	n, e := tree.Find(now.Tree, r.op.Path)
	if e == api.ErrNone && r.op.Mode&createBit != 0 {
		now, n, e = withFile(now, r.op.Path)
	}
	if e == api.OK && n.Dir {
		e = api.ErrIsDir
	}
	if e != api.OK {
		return api.Op{}, e
	}
	now.Opens, e = share.Add(now.Opens, api.Open{
		Client: r.client, Handle: r.op.Handle, File: n.Id,
		Access: r.op.Mode & accessBits, Deny: r.op.Deny,
	})
	if e != api.OK {
		return api.Op{}, e
	}
	r.now = now
	return api.Op{File: n.Id, Size: n.Size}, api.OK
}

// shut closes a file.
func (r *request) shut() (api.Op, api.Errno) {
	l, o, e := share.Drop(r.now.Opens, r.client, r.op.Handle)
	if e != api.OK {
		return api.Op{}, e
	}
	r.now.Opens = l
	if !share.Has(l, r.client, o.File) {
		r.release(o.File)
	}
	return api.Op{}, api.OK
}

// mkdir makes a directory.
func (r *request) mkdir() (api.Op, api.Errno) {
	now, e := withNode(r.now, r.op.Path, true)
	if e == api.OK {
		r.now = now
	}
	return api.Op{}, e
}

// remove removes a file. Its lock stays until all data servers know that it is gone.
func (r *request) remove() (api.Op, api.Errno) {
	t, n, e := tree.Remove(r.now.Tree, r.op.Path, false)
	if e != api.OK {
		return api.Op{}, e
	}
	if share.Uses(r.now.Opens, n.Id) > 0 || hasWork(r.now, n.Id) {
		return api.Op{}, api.ErrBusy
	}
	r.now.Tree = t
	l, _ := lockOf(r.now, n.Id)
	l, _ = hold.Drop(l)
	r.now = withLock(r.now, l)
	return api.Op{}, api.OK
}

// rmdir removes a directory.
func (r *request) rmdir() (api.Op, api.Errno) {
	t, _, e := tree.Remove(r.now.Tree, r.op.Path, true)
	if e == api.OK {
		r.now.Tree = t
	}
	return api.Op{}, e
}

// rename puts a file or a directory elsewhere.
func (r *request) rename() (api.Op, api.Errno) {
	t, e := tree.Rename(r.now.Tree, r.op.Path, r.op.Other)
	if e == api.OK {
		r.now.Tree = t
	}
	return api.Op{}, e
}

// list tells the names in a directory.
func (r *request) list() (api.Op, api.Errno) {
	names, e := tree.List(r.now.Tree, r.op.Path)
	return api.Op{Data: strings.Join(names, "/")}, e
}

// stat tells what there is by a path.
func (r *request) stat() (api.Op, api.Errno) {
	n, e := tree.Find(r.now.Tree, r.op.Path)
	o := api.Op{File: n.Id, Size: n.Size}
	if n.Dir {
		o.Mode = dirMode
	}
	return o, e
}
