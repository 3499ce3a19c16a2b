package mserver

import (
	"cmp"
	"slices"

	"lamella/api"
	"lamella/tree"
)

// The functions here never change a list of the state that is given to them: one that stays the server's has all of its own still if a commit fails.

// lockPlace is where a file's lock is in a state, or would be, and whether it is there.
func lockPlace(s api.State, file uint32) (int, bool) {
	return slices.BinarySearchFunc(s.Locks, file, func(l api.Lock, file uint32) int { return cmp.Compare(l.File, file) })
}

// lockOf is a file's lock, if it has one.
func lockOf(s api.State, file uint32) (api.Lock, bool) {
	at, there := lockPlace(s, file)
	if !there {
		return api.Lock{}, false
	}
	return s.Locks[at], true
}

// withLock is a state with this lock in place of the file's.
func withLock(s api.State, l api.Lock) api.State {
	if at, there := lockPlace(s, l.File); there {
		s.Locks = slices.Clone(s.Locks)
		s.Locks[at] = l
	}
	return s
}

// withoutLock is a state without a file's lock.
func withoutLock(s api.State, file uint32) api.State {
	s.Locks = slices.DeleteFunc(slices.Clone(s.Locks), func(l api.Lock) bool { return l.File == file })
	return s
}

// sizeOf is a file's size, or 0 for one that is gone.
func sizeOf(s api.State, file uint32) uint32 {
	n, _ := tree.Get(s.Tree, file)
	return n.Size
}

// withSize is a state in which a file has this size.
func withSize(s api.State, file, size uint32) api.State {
	t, e := tree.Resize(s.Tree, file, size)
	if e == api.OK {
		s.Tree = t
	}
	return s
}

// grown is a state in which a file reaches at least to this size, and so does what data servers leave of it.
func grown(s api.State, file, size uint32) api.State {
	if l, there := lockOf(s, file); there && l.Cut < size {
		l.Cut = size
		s = withLock(s, l)
	}
	if sizeOf(s, file) < size {
		s = withSize(s, file, size)
	}
	return s
}

// workPlace is where a file's work is in a state, or would be, and whether it is there.
func workPlace(s api.State, file uint32) (int, bool) {
	return slices.BinarySearchFunc(s.Works, file, func(w api.Work, file uint32) int { return cmp.Compare(w.File, file) })
}

// hasWork says whether there is a work of a file.
func hasWork(s api.State, file uint32) bool {
	_, there := workPlace(s, file)
	return there
}

// withWork is a state with a work of a file that has none.
func withWork(s api.State, w api.Work) api.State {
	at, _ := workPlace(s, w.File)
	s.Works = slices.Insert(slices.Clone(s.Works), at, w)
	return s
}

// withoutWork is a state without the work of a file.
func withoutWork(s api.State, file uint32) api.State {
	s.Works = slices.DeleteFunc(slices.Clone(s.Works), func(w api.Work) bool { return w.File == file })
	return s
}

// seatPlace is where a client's seat is in a state, or would be, and whether it is there.
func seatPlace(s api.State, client uint32) (int, bool) {
	return slices.BinarySearchFunc(s.Seats, client, func(h api.Heard, client uint32) int { return cmp.Compare(h.Client, client) })
}

// replyTo is the last answer to a client; the zero packet if there is none.
func replyTo(s api.State, client uint32) api.Packet {
	at, there := seatPlace(s, client)
	if !there {
		return api.Packet{}
	}
	return s.Seats[at].Reply
}

// withReply is a state in which an answer is the last one to its client.
func withReply(s api.State, p api.Packet) api.State {
	h := api.Heard{Client: uint32(p.To), Reply: p}
	at, there := seatPlace(s, h.Client)
	s.Seats = slices.Clone(s.Seats)
	if there {
		s.Seats[at] = h
	} else {
		s.Seats = slices.Insert(s.Seats, at, h)
	}
	return s
}
