package ledger

import (
	"fmt"
	"math"
	"math/rand"
	"slices"
	"strings"
	"testing"

	"lamella/api"
	"lamella/hold"
	"lamella/proto"
	"lamella/share"
	"lamella/tree"
)

// top is the greatest number.
const top = math.MaxUint32

// States that are laid by hand.

// dir is a directory, file a file.
func dir(id, parent uint32, name string) api.Inode {
	return api.Inode{Id: id, Parent: parent, Name: name, Dir: true}
}

func file(id, parent uint32, name string, size uint32) api.Inode {
	return api.Inode{Id: id, Parent: parent, Name: name, Size: size}
}

// by are holders: a client and its mode, one behind the other.
func by(pairs ...uint32) []api.Holder {
	var l []api.Holder
	for i := 0; i+1 < len(pairs); i += 2 {
		l = append(l, api.Holder{Client: pairs[i], Mode: pairs[i+1]})
	}
	return l
}

// reply is a reply to a client, with so many bytes of data.
func reply(to int, data int) api.Packet {
	p := api.Packet{Kind: api.PackReply, To: to, Life: 1, Seq: 2, Asked: 1, Boot: 1}
	p.Op = api.Op{Code: api.OpGive, File: 9, Len: uint32(data), Data: strings.Repeat("d", data)}
	return p
}

// heard is a client's seat.
func heard(client uint32, data int) api.Heard {
	return api.Heard{Client: client, Reply: reply(int(client), data)}
}

// give is a work that reads, take one that writes.
func give(file, client, off, n uint32) api.Work {
	return api.Work{File: file, Client: client, Life: 4, Seq: 5, Code: api.OpGive, Off: off, Len: n}
}

func take(file, client, off uint32, data string) api.Work {
	return api.Work{File: file, Client: client, Life: 6, Seq: 7, Code: api.OpTake, Off: off, Len: uint32(len(data)), Data: data}
}

// rich is a state that has several of everything beside one another.
func rich() api.State {
	return api.State{
		Boot: 3,
		Next: 0x90000001,
		Tree: []api.Inode{
			dir(1, 0, ""), dir(2, 1, "d"), file(3, 2, "a", 0), file(4, 1, "b", 1024), dir(5, 2, "e"),
			file(0x101, 5, "f", 77), file(0x7fffffff, 1, "g", 1), file(0x80000000, 1, "h", 1000),
		},
		Opens: []api.Open{
			{Client: 17, Handle: 0, File: 3, Access: 1}, {Client: 17, Handle: 0x80000000, File: 4, Access: 3, Deny: 3},
			{Client: 18, Handle: 7, File: 3, Access: 3}, {Client: 20, Handle: top, File: 0x80000000, Access: 2, Deny: 1},
		},
		Locks: []api.Lock{
			{File: 2, Epoch: 9, Gone: true},
			{File: 3, Epoch: 1, Used: 1, Cut: 5, Fenced: true, Holders: by(0, 1, 17, 1, 20, 1)},
			{File: 4, Epoch: top, Used: 2, Cut: 1024, Fenced: true, Holders: by(17, 2)},
			{File: 0x101, Epoch: 7, Used: 2, Fenced: true, Holders: by(0, 2)},
			{File: 0x7fffffff, Epoch: 0, Used: 1, Cut: 1},
			{File: 0x80000000, Epoch: 0x80000000, Used: 2, Fenced: true},
			{File: 0x90000000, Epoch: 2, Fenced: true, Gone: true},
		},
		Works: []api.Work{give(3, 17, 0, 64), take(4, 18, 1023, "x"), take(0x80000000, 20, 960, strings.Repeat("w", 64))},
		Seats: []api.Heard{heard(17, 0), heard(18, 108), heard(20, 3)},
	}
}

// small is the chapter's example: a file /a with the number 2.
func small() api.State {
	s := Fresh()
	s.Next, s.Tree = 3, append(s.Tree, file(2, 1, "a", 0))
	s.Locks = []api.Lock{hold.Fresh(2)}
	return s
}

// copied is a state's copy, with memory of its own.
func copied(s api.State) api.State {
	s.Tree, s.Opens, s.Locks = slices.Clone(s.Tree), slices.Clone(s.Opens), slices.Clone(s.Locks)
	s.Works, s.Seats = slices.Clone(s.Works), slices.Clone(s.Seats)
	for i := range s.Locks {
		s.Locks[i].Holders = slices.Clone(s.Locks[i].Holders)
	}
	return s
}

// changed is a state's copy, in which something is changed.
func changed(s api.State, changes ...func(*api.State)) api.State {
	s = copied(s)
	for _, change := range changes {
		change(&s)
	}
	return s
}

// A second telling of states: as a text of all that they say, and as reasons for which they are not valid.

// told is all that a state says.
func told(s api.State) string {
	return fmt.Sprintf("%d %d %q %v %v %q %q", s.Boot, s.Next, fmt.Sprintf("%+v", s.Tree), s.Opens, s.Locks, fmt.Sprintf("%+v", s.Works), fmt.Sprintf("%+v", s.Seats))
}

// reasons are those for which a state is not valid: a reading of the chapter's definition, where each layer below says itself what is valid of its own.
func reasons(s api.State) []string {
	found := map[string]bool{}
	is := func(broken bool, reason string) {
		if broken {
			found[reason] = true
		}
	}
	client := func(n uint32) bool { return n == 17 || n == 18 || n == 19 || n == 20 }
	files := map[uint32]bool{}
	is(!tree.Right(s.Tree), "tree")
	for _, n := range s.Tree {
		is(n.Id >= s.Next, "next")
		if !n.Dir {
			files[n.Id] = true
		}
	}
	is(!share.Right(s.Opens), "opens")
	for _, o := range s.Opens {
		is(o.File >= s.Next, "next")
		is(!client(o.Client), "open's client")
		is(!files[o.File], "open's file")
	}
	is(len(s.Locks) > 40, "locks")
	locked := map[uint32]bool{}
	for i, l := range s.Locks {
		is(!hold.Right(l), "lock")
		is(l.File >= s.Next, "next")
		is(l.File <= 1, "lock's file")
		is(i > 0 && s.Locks[i-1].File >= l.File, "locks' order")
		is(!l.Gone && !files[l.File], "lock without a file")
		if !l.Gone {
			locked[l.File] = true
		}
		for _, h := range l.Holders {
			is(h.Client != 0 && !client(h.Client), "holder")
		}
	}
	for f := range files {
		is(!locked[f], "file without a lock")
	}
	workReasons(s, files, client, is)
	seatReasons(s, client, is)
	var l []string
	for reason := range found {
		l = append(l, reason)
	}
	slices.Sort(l)
	return l
}

func workReasons(s api.State, files map[uint32]bool, client func(uint32) bool, is func(bool, string)) {
	for i, w := range s.Works {
		is(i > 0 && s.Works[i-1].File >= w.File, "works' order")
		is(w.File >= s.Next, "next")
		is(!files[w.File], "work's file")
		is(!client(w.Client), "work's client")
		is(w.Code != 23 && w.Code != 24, "work's code")
		is(int64(w.Off)+int64(w.Len) > 1024, "work's end")
		is(w.Len == 0 || w.Len > 64, "work's length")
		is(w.Code == 24 && int64(len(w.Data)) != int64(w.Len), "work's data")
		is(w.Code == 23 && len(w.Data) > 0, "work's data")
	}
}

func seatReasons(s api.State, client func(uint32) bool, is func(bool, string)) {
	for i, h := range s.Seats {
		p := h.Reply
		is(i > 0 && s.Seats[i-1].Client >= h.Client, "seats' order")
		is(!client(h.Client), "seat's client")
		is(!proto.Right(p), "packet")
		is(p.Kind != 2, "packet's kind")
		is(int64(p.To) != int64(h.Client), "packet's client")
		is(p.Op.Path != "", "packet's path")
		is(p.Op.Other != "", "packet's other path")
		is(len(p.Op.Data) > 108, "packet's data")
	}
}

// broken is a way to break a valid state, or to lead it to an edge: what becomes of the rich one, and why it is broken, if it is.
type broken struct {
	name   string
	change func(*api.State)
	why    []string
}

// lockWith changes a lock of a state.
func lockWith(at int, change func(*api.Lock)) func(*api.State) {
	return func(s *api.State) { change(&s.Locks[at]) }
}

// holders sets a lock's holders, in a lock that may have them.
func holders(at int, used uint32, h []api.Holder) func(*api.State) {
	return lockWith(at, func(l *api.Lock) { l.Used, l.Fenced, l.Holders = used, true, h })
}

// openWith changes an open of a state, workWith a work, seatWith a seat, nodeWith an inode.
func openWith(at int, change func(*api.Open)) func(*api.State) {
	return func(s *api.State) { change(&s.Opens[at]) }
}

func workWith(at int, change func(*api.Work)) func(*api.State) {
	return func(s *api.State) { change(&s.Works[at]) }
}

func seatWith(at int, change func(*api.Heard)) func(*api.State) {
	return func(s *api.State) { change(&s.Seats[at]) }
}

func nodeWith(at int, change func(*api.Inode)) func(*api.State) {
	return func(s *api.State) { change(&s.Tree[at]) }
}

// goneLocks adds locks that are gone, behind all others, until there are n.
func goneLocks(n int) func(*api.State) {
	return func(s *api.State) {
		for len(s.Locks) < n {
			s.Locks = append(s.Locks, api.Lock{File: s.Next, Gone: true})
			s.Next++
		}
	}
}

// dropLock takes a lock away.
func dropLock(at int) func(*api.State) {
	return func(s *api.State) { s.Locks = slices.Delete(s.Locks, at, at+1) }
}

// putLock puts a lock at a place.
func putLock(at int, l api.Lock) func(*api.State) {
	return func(s *api.State) { s.Locks = slices.Insert(s.Locks, at, l) }
}

// breaks are all of them, of the rich state.
func breaks() []broken {
	var l []broken
	add := func(name string, change func(*api.State), why ...string) {
		slices.Sort(why)
		l = append(l, broken{name, change, why})
	}
	headBreaks(add)
	treeBreaks(add)
	openBreaks(add)
	lockBreaks(add)
	workBreaks(add)
	seatBreaks(add)
	return l
}

type adder = func(name string, change func(*api.State), why ...string)

func headBreaks(add adder) {
	for _, n := range []uint32{0, 1, 2, 3, top - 1, top} {
		add(fmt.Sprintf("boot %d", n), func(s *api.State) { s.Boot = n })
	}
	add("next at the greatest", func(s *api.State) { s.Next = top })
	add("next is a gone lock's file", func(s *api.State) { s.Next = 0x90000000 }, "next")
	add("next is below a gone lock's file", func(s *api.State) { s.Next = 0x80000001 }, "next")
	add("next is a file's, without the gone lock", func(s *api.State) { s.Next, s.Locks = 0x80000000, s.Locks[:6] }, "next")
	add("next just above all", func(s *api.State) { s.Next, s.Locks = 0x80000001, s.Locks[:6] })
	add("next 0", func(s *api.State) { s.Next = 0 }, "next")
	add("next 2", func(s *api.State) { s.Next = 2 }, "next")
	add("next is the last directory's", func(s *api.State) {
		s.Tree, s.Next, s.Locks = append(s.Tree, dir(0x90000001, 1, "z")), 0x90000001, s.Locks[:6]
	}, "next")
	add("next behind the last directory", func(s *api.State) {
		s.Tree, s.Next = append(s.Tree, dir(0x90000001, 1, "z")), 0x90000002
	})
}

func treeBreaks(add adder) {
	add("no tree", func(s *api.State) { s.Tree = nil }, "tree", "open's file", "work's file", "lock without a file")
	add("no root", func(s *api.State) { s.Tree = s.Tree[1:] }, "tree")
	add("root's size", nodeWith(0, func(n *api.Inode) { n.Size = 1 }), "tree")
	add("a name that is none", nodeWith(2, func(n *api.Inode) { n.Name = "A" }), "tree")
	add("a name twice", nodeWith(3, func(n *api.Inode) { n.Name = "d" }), "tree")
	add("another name", nodeWith(3, func(n *api.Inode) { n.Name = "other.-_" }))
	add("a great file", nodeWith(3, func(n *api.Inode) { n.Size = 1025 }), "tree")
	add("a directory with a size", nodeWith(1, func(n *api.Inode) { n.Size = 1 }), "tree")
	add("a parent that is a file", nodeWith(7, func(n *api.Inode) { n.Parent = 3 }), "tree")
	add("another parent", nodeWith(7, func(n *api.Inode) { n.Parent = 5 }))
	add("inodes out of order", func(s *api.State) { s.Tree[2], s.Tree[3] = s.Tree[3], s.Tree[2] }, "tree")
	add("a file is a directory", nodeWith(5, func(n *api.Inode) { n.Dir, n.Size = true, 0 }), "lock without a file")
	add("a directory is a file", nodeWith(4, func(n *api.Inode) { n.Dir = false }), "tree", "file without a lock")
	add("an empty directory is a file", func(s *api.State) { s.Tree = append(s.Tree, file(0x90000000, 1, "z", 0)) }, "file without a lock")
}

func openBreaks(add adder) {
	for _, n := range []uint32{0, 16, 21, 0x111, 0x10011, top} {
		why := []string{"open's client"}
		if n == 0 {
			why = append(why, "opens")
		}
		at := 0
		if n > 20 {
			at = 3
		}
		add(fmt.Sprintf("open's client %d", n), openWith(at, func(o *api.Open) { o.Client = n }), why...)
	}
	add("open's client 19", openWith(3, func(o *api.Open) { o.Client = 19 }))
	add("open of a directory", openWith(2, func(o *api.Open) { o.File = 2 }), "open's file")
	add("open of the root", openWith(2, func(o *api.Open) { o.File = 1 }), "open's file")
	add("open of no file", openWith(2, func(o *api.Open) { o.File = 6 }), "open's file")
	add("open of a file that is gone", openWith(2, func(o *api.Open) { o.File = 0x90000000 }), "open's file")
	add("open of a file to come", openWith(2, func(o *api.Open) { o.File = 0x90000001 }), "open's file", "next")
	add("open of another file", openWith(2, func(o *api.Open) { o.File = 0x101 }))
	add("opens out of order", func(s *api.State) { s.Opens[0], s.Opens[1] = s.Opens[1], s.Opens[0] }, "opens")
	add("an open twice", openWith(1, func(o *api.Open) { o.Handle = 0 }), "opens")
	add("opens that conflict", openWith(0, func(o *api.Open) { o.Deny = 2 }), "opens")
	add("open's access", openWith(0, func(o *api.Open) { o.Access = 4 }), "opens")
	add("open's deny", openWith(1, func(o *api.Open) { o.Deny = 4 }), "opens")
	add("too many opens", func(s *api.State) {
		s.Opens = nil
		for h := range uint32(5) {
			s.Opens = append(s.Opens, api.Open{Client: 17, Handle: h, File: 3, Access: 1})
		}
	}, "opens")
	add("no opens", func(s *api.State) { s.Opens = nil })
}

func lockBreaks(add adder) {
	add("as many locks as may be", goneLocks(40))
	add("one lock more", goneLocks(41), "locks")
	add("a lock of the root", lockWith(0, func(l *api.Lock) { l.File = 1 }), "lock's file")
	add("a lock of no number", lockWith(0, func(l *api.Lock) { l.File = 0 }), "lock's file")
	add("a lock of a directory", lockWith(0, func(l *api.Lock) { l.Gone = false }), "lock without a file")
	add("a lock of a file that is no more", lockWith(6, func(l *api.Lock) { l.Gone = false }), "lock without a file")
	add("a gone lock of a file", lockWith(4, func(l *api.Lock) { l.Gone = true }), "file without a lock")
	add("a gone lock of another directory", putLock(3, api.Lock{File: 5, Gone: true}))
	add("a gone lock of no file", putLock(3, api.Lock{File: 6, Gone: true}))
	add("a file without a lock", dropLock(1), "file without a lock")
	add("the last file without a lock", dropLock(5), "file without a lock")
	add("a lock for another file's", lockWith(4, func(l *api.Lock) { l.File = 0x102 }), "file without a lock", "lock without a file")
	add("locks out of order", func(s *api.State) { s.Locks[1], s.Locks[2] = s.Locks[2], s.Locks[1] }, "locks' order")
	add("the last locks out of order", func(s *api.State) { s.Locks[5], s.Locks[6] = s.Locks[6], s.Locks[5] }, "locks' order")
	add("a lock twice", putLock(2, api.Lock{File: 3, Epoch: 1}), "locks' order")
	add("a lock twice for another file's", lockWith(2, func(l *api.Lock) { l.File = 3 }), "locks' order", "file without a lock")
	add("a lock and a gone one of one file", putLock(2, api.Lock{File: 3, Gone: true}), "locks' order")
	add("a gone lock and one of one file", putLock(1, api.Lock{File: 3, Gone: true}), "locks' order")
	add("no locks", func(s *api.State) { s.Locks = nil }, "file without a lock")
	add("lock's used", lockWith(4, func(l *api.Lock) { l.Used = 3 }), "lock")
	add("lock's cut", lockWith(4, func(l *api.Lock) { l.Cut = 1025 }), "lock")
	add("lock's cut at the end", lockWith(4, func(l *api.Lock) { l.Cut = 1024 }))
	add("holders of a lock that isn't fenced", lockWith(1, func(l *api.Lock) { l.Fenced = false }), "lock")
	add("holders of a gone lock", lockWith(6, func(l *api.Lock) { l.Used, l.Holders = 1, by(17, 1) }), "lock")
	for _, n := range []uint32{0, 1, 16, 17, 18, 19, 20, 21, 0x111, 0x10011, top} {
		var why []string
		if n != 0 && (n < 17 || n > 20) {
			why = []string{"holder"}
		}
		add(fmt.Sprintf("holder %d", n), holders(3, 2, by(n, 2)), why...)
		if n > 17 {
			add(fmt.Sprintf("holders 0, 17 and %d", n), holders(3, 1, by(0, 1, 17, 1, n, 1)), why...)
		}
	}
	add("four holders", holders(3, 1, by(17, 1, 18, 1, 19, 1, 20, 1)))
	add("five holders", holders(3, 1, by(0, 1, 17, 1, 18, 1, 19, 1, 20, 1)), "lock")
	add("holders out of order", holders(3, 1, by(18, 1, 17, 1)), "lock")
	add("holder's mode", holders(3, 2, by(17, 3)), "lock")
}

func workBreaks(add adder) {
	text := strings.Repeat("t", 65)
	all := func(off, n uint32, code int, data string) func(*api.State) {
		return workWith(1, func(w *api.Work) { w.Off, w.Len, w.Code, w.Data = off, n, code, data })
	}
	add("a take of 0", all(0, 0, 24, ""), "work's length")
	add("a give of 0", all(0, 0, 23, ""), "work's length")
	add("a take of 1", all(0, 1, 24, text[:1]))
	add("a give of 1", all(0, 1, 23, ""))
	add("a take of 64", all(0, 64, 24, text[:64]))
	add("a give of 64", all(0, 64, 23, ""))
	add("a take of 65", all(0, 65, 24, text), "work's length")
	add("a give of 65", all(0, 65, 23, ""), "work's length")
	add("a take to the end", all(960, 64, 24, text[:64]))
	add("a give to the end", all(1023, 1, 23, ""))
	add("a take behind the end", all(961, 64, 24, text[:64]), "work's end")
	add("a give behind the end", all(1024, 1, 23, ""), "work's end")
	add("a give at the end of nothing", all(1024, 0, 23, ""), "work's length")
	add("a sum that wraps round", all(top, 1, 23, ""), "work's end")
	add("a sum that wraps round to more", all(top-62, 64, 24, text[:64]), "work's end")
	add("a length that wraps round", all(64, top-63, 23, ""), "work's end", "work's length")
	add("both wrap round", all(0x80000000, 0x80000001, 23, ""), "work's end", "work's length")
	add("a take of less data", all(0, 64, 24, text[:63]), "work's data")
	add("a take of more data", all(0, 64, 24, text), "work's data")
	add("a take without data", all(0, 1, 24, ""), "work's data")
	add("a take of one more byte", all(0, 1, 24, text[:2]), "work's data")
	add("a give with data", all(0, 1, 23, text[:1]), "work's data")
	for _, code := range []int{0, 1, 2, 22, 25, 30, -1, -23, 1<<32 + 23, 1<<32 + 24, math.MaxInt, math.MinInt} {
		add(fmt.Sprintf("work's code %d", code), all(0, 1, code, "t"), "work's code")
		add(fmt.Sprintf("work's code %d without data", code), all(0, 1, code, ""), "work's code")
	}
	for _, n := range []uint32{0, 1, 16, 17, 18, 19, 20, 21, 0x111, 0x10011, top} {
		var why []string
		if n < 17 || n > 20 {
			why = []string{"work's client"}
		}
		add(fmt.Sprintf("work's client %d", n), workWith(1, func(w *api.Work) { w.Client = n }), why...)
	}
	add("work's life and number", workWith(1, func(w *api.Work) { w.Life, w.Seq = top, 0 }))
	add("work of a directory", workWith(0, func(w *api.Work) { w.File = 2 }), "work's file")
	add("work of the root", workWith(0, func(w *api.Work) { w.File = 1 }), "work's file")
	add("work of no file", workWith(1, func(w *api.Work) { w.File = 6 }), "work's file")
	add("work of a gone file", workWith(2, func(w *api.Work) { w.File = 0x90000000 }), "work's file")
	add("work of a file to come", workWith(2, func(w *api.Work) { w.File = 0x90000001 }), "work's file", "next")
	add("work of another file", workWith(1, func(w *api.Work) { w.File = 0x101 }))
	add("works out of order", func(s *api.State) { s.Works[0], s.Works[1] = s.Works[1], s.Works[0] }, "works' order")
	add("the last works out of order", func(s *api.State) { s.Works[2], s.Works[1] = s.Works[1], s.Works[2] }, "works' order")
	add("two works of a file", workWith(1, func(w *api.Work) { w.File = 3 }), "works' order")
	add("no works", func(s *api.State) { s.Works = nil })
}

func seatBreaks(add adder) {
	packet := func(change func(p *api.Packet)) func(*api.State) {
		return seatWith(1, func(h *api.Heard) { change(&h.Reply) })
	}
	for _, n := range []int{0, 1, 107, 108} {
		add(fmt.Sprintf("data of %d bytes", n), packet(func(p *api.Packet) { p.Op.Data = strings.Repeat("x", n) }))
	}
	for _, n := range []int{109, 110, 128} {
		add(fmt.Sprintf("data of %d bytes", n), packet(func(p *api.Packet) { p.Op.Data = strings.Repeat("x", n) }), "packet's data")
	}
	add("data of 129 bytes", packet(func(p *api.Packet) { p.Op.Data = strings.Repeat("x", 129) }), "packet's data", "packet")
	add("a path", packet(func(p *api.Packet) { p.Op.Path = "/" }), "packet's path")
	add("another path", packet(func(p *api.Packet) { p.Op.Other = "/" }), "packet's other path")
	add("both paths, no data", packet(func(p *api.Packet) { p.Op.Other, p.Op.Path, p.Op.Data = "a", "b", "" }), "packet's other path", "packet's path")
	add("a request", packet(func(p *api.Packet) { p.Kind = 1 }), "packet's kind")
	add("a call", packet(func(p *api.Packet) { p.Kind, p.Op.Code = 3, 30 }), "packet's kind")
	add("kind 0", packet(func(p *api.Packet) { p.Kind = 0 }), "packet's kind", "packet")
	add("a reply to a recall", packet(func(p *api.Packet) { p.Op.Code = 30 }), "packet")
	add("an error", packet(func(p *api.Packet) { p.Op.Err = 25 }))
	add("an error that is none", packet(func(p *api.Packet) { p.Op.Err = 26 }), "packet")
	add("from another node", packet(func(p *api.Packet) { p.From = 255 }))
	add("from no node", packet(func(p *api.Packet) { p.From = 256 }), "packet")
	for _, to := range []int{0, 17, 19, 255} {
		add(fmt.Sprintf("to %d", to), packet(func(p *api.Packet) { p.To = to }), "packet's client")
	}
	for _, to := range []int{256 + 18, -18, 1<<32 + 18} {
		add(fmt.Sprintf("to %d", to), packet(func(p *api.Packet) { p.To = to }), "packet's client", "packet")
	}
	add("numbers at the greatest", packet(func(p *api.Packet) {
		p.Life, p.Seq, p.Asked, p.Boot = top, top, top, top
		p.Op = api.Op{Code: 20, File: top, Epoch: top, Off: top, Len: top, Size: top, Mode: top, Deny: top, Handle: top}
	}))
	add("the zero packet", packet(func(p *api.Packet) { *p = api.Packet{} }), "packet", "packet's kind", "packet's client")
	add("seat 19", seatWith(1, func(h *api.Heard) { h.Client, h.Reply.To = 19, 19 }))
	for _, n := range []uint32{0, 16, 21, 255} {
		at := 0
		if n > 20 {
			at = 2
		}
		add(fmt.Sprintf("seat %d", n), seatWith(at, func(h *api.Heard) { h.Client, h.Reply.To = n, int(n) }), "seat's client")
	}
	for _, n := range []uint32{0x112, 0x10012, top} {
		add(fmt.Sprintf("seat %d", n), seatWith(2, func(h *api.Heard) { h.Client, h.Reply.To = n, int(n) }), "seat's client", "packet")
	}
	add("seats out of order", func(s *api.State) { s.Seats[0], s.Seats[1] = s.Seats[1], s.Seats[0] }, "seats' order")
	add("the last seats out of order", func(s *api.State) { s.Seats[2], s.Seats[1] = s.Seats[1], s.Seats[2] }, "seats' order")
	add("a seat twice", func(s *api.State) { s.Seats[1] = heard(17, 1) }, "seats' order")
	add("no seats", func(s *api.State) { s.Seats = nil })
	add("all seats", func(s *api.State) { s.Seats = []api.Heard{heard(17, 1), heard(18, 2), heard(19, 3), heard(20, 4)} })
}

// P14.1: Right says whether a state is valid: each condition broken alone, and all edges.
func TestRightOneByOne(t *testing.T) {
	if why := reasons(rich()); len(why) > 0 || !Right(rich()) {
		t.Fatalf("the rich state: %v, Right = %v", why, Right(rich()))
	}
	for _, b := range breaks() {
		s := changed(rich(), b.change)
		if why := reasons(s); !slices.Equal(why, b.why) {
			t.Errorf("%s: the test says %q, and not %q", b.name, why, b.why)
		}
		if got := Right(s); got != (len(b.why) == 0) {
			t.Errorf("%s: Right = %v", b.name, got)
		}
	}
}

// P14.1: Right says whether a state is valid: conditions broken together.
func TestRightTogether(t *testing.T) {
	all := breaks()
	seen := map[bool]int{}
	for _, a := range all {
		for _, b := range all {
			s, whole := together(a, b)
			if !whole {
				continue
			}
			want := len(reasons(s)) == 0
			seen[want]++
			if got := Right(s); got != want {
				t.Fatalf("%s, %s: Right = %v: %q", a.name, b.name, got, reasons(s))
			}
		}
	}
	if seen[true] < 1000 || seen[false] < 10000 {
		t.Errorf("seen %v", seen)
	}
}

// together is the rich state changed twice, where the second change finds what it changes.
func together(a, b broken) (s api.State, whole bool) {
	defer func() { whole = recover() == nil }()
	return changed(rich(), a.change, b.change), true
}

// P14.1: small states: the zero one is not valid, nor is one without a root or with a Next that is too small.
func TestRightSmall(t *testing.T) {
	none := []api.State{{}, {Next: 2}, {Next: 1, Tree: root()}, {Next: 0, Tree: root()}, {Next: 2, Tree: []api.Inode{dir(2, 0, "")}}}
	for _, s := range none {
		if Right(s) {
			t.Errorf("Right(%v)", s)
		}
	}
	some := []api.State{Fresh(), small(), {Next: top, Boot: top, Tree: root()}, {Next: 2, Tree: root(), Opens: []api.Open{}, Locks: []api.Lock{}, Works: []api.Work{}, Seats: []api.Heard{}}}
	for _, s := range some {
		if !Right(s) {
			t.Errorf("not Right(%v)", s)
		}
	}
	s := small()
	s.Next = 2
	if Right(s) {
		t.Errorf("Right, though the file 2 is the next one")
	}
}

// P14.1: Right ends for long lists, too.
func TestRightLong(t *testing.T) {
	const n = 1 << 18
	long := []func(s *api.State){
		func(s *api.State) { s.Tree = make([]api.Inode, n) },
		func(s *api.State) { s.Opens = make([]api.Open, n) },
		func(s *api.State) { s.Locks = make([]api.Lock, n) },
		func(s *api.State) { s.Locks[2].Holders = make([]api.Holder, n) },
		func(s *api.State) { s.Works = make([]api.Work, n) },
		func(s *api.State) { s.Works[1].Data = strings.Repeat("x", n) },
		func(s *api.State) { s.Seats = make([]api.Heard, n) },
		func(s *api.State) {
			s.Opens = nil
			for i := range uint32(n) {
				s.Opens = append(s.Opens, api.Open{Client: 17, Handle: i, File: 3, Access: 1})
			}
		},
		func(s *api.State) {
			for i := range uint32(n) {
				s.Tree = append(s.Tree, dir(0x90000001+i, 1, fmt.Sprint(i)))
			}
			s.Next = top
		},
	}
	for i, change := range long {
		if Right(changed(rich(), change)) {
			t.Errorf("%d: Right", i)
		}
	}
}

// P14.1: Fresh is {Boot 0, Next 2, a tree that consists of the root}.
func TestFresh(t *testing.T) {
	want := api.State{Next: 2, Tree: []api.Inode{{Id: 1, Dir: true}}}
	if got := Fresh(); told(got) != told(want) {
		t.Errorf("Fresh = %v", got)
	}
}

// differences are changes from the rich state in one field each: all fields that a state has.
func differences() []func(*api.State) {
	l := []func(*api.State){
		func(s *api.State) { s.Boot++ },
		func(s *api.State) { s.Next++ },
		func(s *api.State) { s.Tree = s.Tree[:len(s.Tree)-1] },
		func(s *api.State) { s.Tree = append(s.Tree, api.Inode{}) },
		func(s *api.State) { s.Opens = append(s.Opens, api.Open{}) },
		func(s *api.State) { s.Opens = s.Opens[1:] },
		func(s *api.State) { s.Locks = append(s.Locks, api.Lock{}) },
		func(s *api.State) { s.Locks = s.Locks[1:] },
		func(s *api.State) { s.Works = append(s.Works, api.Work{}) },
		func(s *api.State) { s.Works = s.Works[:2] },
		func(s *api.State) { s.Seats = append(s.Seats, api.Heard{}) },
		func(s *api.State) { s.Seats = s.Seats[:0] },
		func(s *api.State) { s.Tree[3], s.Tree[2] = s.Tree[2], s.Tree[3] },
	}
	for at := range 8 {
		for _, change := range []func(*api.Inode){
			func(n *api.Inode) { n.Id++ },
			func(n *api.Inode) { n.Parent ^= 1 << 31 },
			func(n *api.Inode) { n.Name += "x" },
			func(n *api.Inode) { n.Dir = !n.Dir },
			func(n *api.Inode) { n.Size++ },
		} {
			l = append(l, nodeWith(at, change))
		}
	}
	for at := range 4 {
		for _, change := range []func(*api.Open){
			func(o *api.Open) { o.Client++ },
			func(o *api.Open) { o.Handle++ },
			func(o *api.Open) { o.File++ },
			func(o *api.Open) { o.Access ^= 4 },
			func(o *api.Open) { o.Deny ^= 4 },
		} {
			l = append(l, openWith(at, change))
		}
	}
	l = append(l, lockDifferences()...)
	l = append(l, workDifferences()...)
	return append(l, seatDifferences()...)
}

func lockDifferences() []func(*api.State) {
	var l []func(*api.State)
	for at := range 7 {
		for _, change := range []func(*api.Lock){
			func(k *api.Lock) { k.File++ },
			func(k *api.Lock) { k.Epoch ^= 1 << 31 },
			func(k *api.Lock) { k.Used++ },
			func(k *api.Lock) { k.Cut++ },
			func(k *api.Lock) { k.Fenced = !k.Fenced },
			func(k *api.Lock) { k.Gone = !k.Gone },
			func(k *api.Lock) { k.Holders = append(k.Holders, api.Holder{}) },
		} {
			l = append(l, lockWith(at, change))
		}
	}
	return append(l,
		lockWith(1, func(k *api.Lock) { k.Holders = k.Holders[:2] }),
		lockWith(1, func(k *api.Lock) { k.Holders = nil }),
		lockWith(1, func(k *api.Lock) { k.Holders[2].Client++ }),
		lockWith(1, func(k *api.Lock) { k.Holders[0].Mode++ }),
		lockWith(1, func(k *api.Lock) { k.Holders[2].Mode++ }),
	)
}

func workDifferences() []func(*api.State) {
	var l []func(*api.State)
	for at := range 3 {
		for _, change := range []func(*api.Work){
			func(w *api.Work) { w.File++ },
			func(w *api.Work) { w.Client++ },
			func(w *api.Work) { w.Life++ },
			func(w *api.Work) { w.Seq++ },
			func(w *api.Work) { w.Code++ },
			func(w *api.Work) { w.Off++ },
			func(w *api.Work) { w.Len++ },
			func(w *api.Work) { w.Data += "\x00" },
		} {
			l = append(l, workWith(at, change))
		}
	}
	return l
}

func seatDifferences() []func(*api.State) {
	var l []func(*api.State)
	for at := range 3 {
		l = append(l, seatWith(at, func(h *api.Heard) { h.Client++ }))
		for _, change := range []func(*api.Packet){
			func(p *api.Packet) { p.Kind++ },
			func(p *api.Packet) { p.From++ },
			func(p *api.Packet) { p.To++ },
			func(p *api.Packet) { p.Life++ },
			func(p *api.Packet) { p.Seq++ },
			func(p *api.Packet) { p.Asked++ },
			func(p *api.Packet) { p.Boot++ },
			func(p *api.Packet) { p.Op.Code++ },
			func(p *api.Packet) { p.Op.Err++ },
			func(p *api.Packet) { p.Op.File++ },
			func(p *api.Packet) { p.Op.Epoch++ },
			func(p *api.Packet) { p.Op.Off++ },
			func(p *api.Packet) { p.Op.Len++ },
			func(p *api.Packet) { p.Op.Size++ },
			func(p *api.Packet) { p.Op.Mode++ },
			func(p *api.Packet) { p.Op.Deny++ },
			func(p *api.Packet) { p.Op.Handle++ },
			func(p *api.Packet) { p.Op.Path += "x" },
			func(p *api.Packet) { p.Op.Other += "x" },
			func(p *api.Packet) { p.Op.Data += "\x00" },
		} {
			l = append(l, seatWith(at, func(h *api.Heard) { change(&h.Reply) }))
		}
	}
	return l
}

// P14.1: Same says whether all parts of two states are equal, of valid ones and of others.
func TestSame(t *testing.T) {
	states := []api.State{{}, Fresh(), small(), rich()}
	for _, change := range differences() {
		states = append(states, changed(rich(), change))
	}
	for _, b := range breaks() {
		states = append(states, changed(rich(), b.change))
	}
	texts := make([]string, len(states))
	for i, s := range states {
		texts[i] = told(s)
	}
	for i, a := range states {
		for j, b := range states {
			if got, want := Same(a, b), texts[i] == texts[j]; got != want {
				t.Fatalf("Same(%s, %s) = %v", texts[i], texts[j], got)
			}
		}
		if !Same(a, copied(a)) {
			t.Fatalf("a copy is not the same: %s", texts[i])
		}
	}
	for i, change := range differences() {
		if Same(rich(), changed(rich(), change)) || Same(changed(rich(), change), rich()) {
			t.Errorf("difference %d is not seen", i)
		}
	}
}

// P14.1: nil and empty lists are the same.
func TestSameNil(t *testing.T) {
	empty := api.State{Tree: []api.Inode{}, Opens: []api.Open{}, Locks: []api.Lock{}, Works: []api.Work{}, Seats: []api.Heard{}}
	if !Same(api.State{}, empty) || !Same(empty, api.State{}) {
		t.Errorf("nil and empty lists are not the same")
	}
	s := changed(small(), lockWith(0, func(l *api.Lock) { l.Holders = []api.Holder{} }))
	if !Same(small(), s) || !Same(s, small()) || !Right(s) {
		t.Errorf("nil and empty holders are not the same")
	}
}

// States at random: built step by step, and valid.

// words are names, few enough to meet.
var words = []string{"a", "b", "c", "d", "e.f", "long-_9."}

// random is a valid state.
func random(r *rand.Rand) api.State {
	s := Fresh()
	s.Boot = number(r)
	ids := map[uint32]bool{}
	for range r.Intn(12) {
		id := number(r)
		path := ""
		for range 1 + r.Intn(3) {
			path += "/" + words[r.Intn(len(words))]
		}
		if now, err := tree.Make(s.Tree, path, id, r.Intn(3) == 0); err == api.OK && id < top {
			s.Tree = now
			ids[id] = true
		}
	}
	for i := range s.Tree {
		if !s.Tree[i].Dir {
			s.Tree[i].Size = uint32(r.Intn(1025))
		}
	}
	randomLocks(r, &s)
	randomOpens(r, &s)
	randomWorks(r, &s)
	s.Next = max(s.Next, s.Tree[len(s.Tree)-1].Id+1)
	if n := len(s.Locks); n > 0 {
		s.Next = max(s.Next, s.Locks[n-1].File+1)
	}
	if r.Intn(2) == 0 {
		s.Next += (top - s.Next) / 3
	}
	return s
}

// number is a number: small ones are likely, and so are great ones.
func number(r *rand.Rand) uint32 {
	switch r.Intn(4) {
	case 0:
		return r.Uint32()
	case 1:
		return top - uint32(r.Intn(4))
	case 2:
		return 1<<31 - 2 + uint32(r.Intn(4))
	}
	return uint32(r.Intn(12))
}

// pick are some of the clients, in order, beside others that are always there or not.
func pick(r *rand.Rand, first ...uint32) []uint32 {
	var l []uint32
	for _, n := range append(first, 17, 18, 19, 20) {
		if r.Intn(2) == 0 {
			l = append(l, n)
		}
	}
	return l
}

func randomLocks(r *rand.Rand, s *api.State) {
	for _, n := range s.Tree[1:] {
		l := api.Lock{File: n.Id, Epoch: number(r), Used: uint32(r.Intn(3)), Cut: uint32(r.Intn(1025)), Fenced: r.Intn(2) == 0}
		if n.Dir {
			if r.Intn(2) == 0 {
				l.Gone = true
				s.Locks = append(s.Locks, l)
			}
			continue
		}
		who := pick(r, 0)
		switch {
		case !l.Fenced || l.Used == 0 || len(who) == 0:
		case l.Used == 2 && r.Intn(2) == 0:
			l.Holders = by(who[0], 2)
		default:
			for _, c := range who[:min(4, len(who))] {
				l.Holders = append(l.Holders, api.Holder{Client: c, Mode: 1})
			}
		}
		s.Locks = append(s.Locks, l)
	}
	for range r.Intn(3) {
		l := api.Lock{File: number(r), Epoch: number(r), Gone: true, Fenced: r.Intn(2) == 0}
		taken := slices.ContainsFunc(s.Locks, func(k api.Lock) bool { return k.File == l.File })
		_, there := tree.Get(s.Tree, l.File)
		if l.File > 1 && l.File < top && !taken && !there {
			s.Locks = append(s.Locks, l)
		}
	}
	slices.SortFunc(s.Locks, func(a, b api.Lock) int {
		if a.File < b.File {
			return -1
		}
		return 1
	})
}

func randomOpens(r *rand.Rand, s *api.State) {
	for range r.Intn(8) {
		n := s.Tree[r.Intn(len(s.Tree))]
		o := api.Open{Client: 17 + uint32(r.Intn(4)), Handle: number(r), File: n.Id, Access: 1 + uint32(r.Intn(3)), Deny: uint32(r.Intn(8) / 6)}
		if now, err := share.Add(s.Opens, o); err == api.OK && !n.Dir {
			s.Opens = now
		}
	}
	for _, c := range pick(r) {
		p := reply(int(c), r.Intn(109))
		p.Life, p.Seq, p.Op.File, p.Op.Err = number(r), number(r), number(r), api.Errno(r.Intn(26))
		s.Seats = append(s.Seats, api.Heard{Client: c, Reply: p})
	}
}

func randomWorks(r *rand.Rand, s *api.State) {
	for _, n := range s.Tree {
		if n.Dir || r.Intn(2) == 0 {
			continue
		}
		w := take(n.Id, 17+uint32(r.Intn(4)), uint32(r.Intn(961)), strings.Repeat("k", 1+r.Intn(64)))
		if r.Intn(2) == 0 {
			w.Code, w.Data = api.OpGive, ""
		}
		w.Life, w.Seq = number(r), number(r)
		s.Works = append(s.Works, w)
	}
}

// P14.1: random states are valid, and what differs from them in one field is as the chapter's definition says.
func TestRightRandom(t *testing.T) {
	r := rand.New(rand.NewSource(1))
	seen := map[string]int{}
	all := differences()
	for range 3000 {
		s := random(r)
		if why := reasons(s); len(why) > 0 || !Right(s) {
			t.Fatalf("%v: %v, Right = %v", s, why, Right(s))
		}
		seen[fmt.Sprint(min(1, len(s.Opens)), min(1, len(s.Locks)), min(1, len(s.Works)), min(1, len(s.Seats)))]++
		for range 4 {
			x, whole := together(broken{change: func(x *api.State) { *x = copied(s) }}, broken{change: all[r.Intn(len(all))]})
			if !whole {
				continue
			}
			why := reasons(x)
			seen[fmt.Sprint(len(why) == 0)]++
			if Right(x) != (len(why) == 0) {
				t.Fatalf("%v: %v, Right = %v", x, why, Right(x))
			}
		}
	}
	if len(seen) < 8 || seen["true"] < 1000 || seen["false"] < 1000 {
		t.Errorf("seen %v", seen)
	}
}
