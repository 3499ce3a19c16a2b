package mserver

import (
	"slices"
	"strings"
	"testing"

	"lamella/api"
)

// scene is a state, what is asked of the server before, and a request of ann's.
type scene struct {
	s     api.State
	ahead func(b *bench)
	o     api.Op
}

// fault is what is wrong with a request, and the error that it has.
type fault struct {
	what string
	e    api.Errno
	do   func(x *scene)
}

// play starts a server of one data server with the scene, and sends the request. What is outstanding at the data server stays so.
func (x scene) play(t *testing.T) (b *bench, was api.State, p api.Packet, sent []api.Packet) {
	t.Helper()
	// Ann was heard before: what she has open is not cleared.
	b = startAt(t, seated(x.s, answering(asking(ann, 1, 4, statOf("/")), api.Op{})), 1, 4)
	b.tick()
	if x.ahead != nil {
		x.ahead(b)
	}
	was = b.s.State()
	p, sent = b.ask(ann, x.o)
	return b, was, p, sent
}

// faulty fails unless each fault alone, and each with a later one, is answered with the error of the first, and nothing else is done. The faults are in the order in which the chapter has their errors.
func faulty(t *testing.T, good func() scene, faults ...fault) {
	t.Helper()
	for i, first := range faults {
		for j := i; j < len(faults); j++ {
			x := good()
			if i != j {
				faults[j].do(&x)
			}
			first.do(&x)
			b, was, p, sent := x.play(t)
			b.same(first.what+", "+faults[j].what, sent, failing(p, first.e))
			b.is(seated(was, failing(p, first.e)))
			if t.Failed() {
				t.Fatalf("%s, %s: want the error %d", first.what, faults[j].what, first.e)
			}
		}
	}
}

// crowded is a state whose root has as many names as it can have, if it had four.
func crowded(s api.State) api.State {
	for n := uint32(4); n < api.MaxKids; n++ {
		s.Tree = append(s.Tree, api.Inode{Id: 100 + n, Parent: 1, Name: "x" + string(rune('a'+n)), Dir: true})
		s.Next = max(s.Next, 101+n)
	}
	return s
}

// locked is a state that has so many locks: all but the files' are gone.
func locked(s api.State, n int) api.State {
	for len(s.Locks) < n {
		file := 200 + uint32(len(s.Locks))
		s.Locks = append(s.Locks, api.Lock{File: file, Epoch: 1, Gone: true})
		s.Next = max(s.Next, file+1)
	}
	return s
}

// named is a state with the files /a and /b, the directory /d with the file /d/f, and the empty directory /e.
func named() api.State {
	s := filed(5, 10, 20)
	s.Next = 7
	s.Tree = append(s.Tree, api.Inode{Id: 4, Parent: 1, Name: "d", Dir: true}, api.Inode{Id: 5, Parent: 4, Name: "f", Size: 30}, api.Inode{Id: 6, Parent: 1, Name: "e", Dir: true})
	s.Locks = append(s.Locks, api.Lock{File: 5, Epoch: 9, Fenced: true, Cut: 30})
	return s
}

// badName gives a request a path that is none.
func badName(x *scene) { x.o.Path = "a" }

// P15.4: OpOpen of a file that is there: its File and Size, an open with the handle, the access and what is denied; the access is two bits of Mode alone, and create changes nothing.
func TestOpen(t *testing.T) {
	for _, mode := range []uint32{1, 2, 3, 5, 6, 7, 8 + 1, 0xfffffff8 + 2, top} {
		for _, deny := range []uint32{0, 1, 2, 3} {
			for _, handle := range []uint32{0, 1, 77, top} {
				b := startAt(t, named(), 1, 4)
				want := b.s.State()
				p, l := b.ask(bob, openOf("/d/f", handle, mode, deny))
				b.same(p, l, answering(p, api.Op{File: 5, Size: 30}))
				want.Opens = []api.Open{{Client: bob, Handle: handle, File: 5, Access: mode & 3, Deny: deny}}
				want = seated(want, l[0])
				b.is(want)
				keeps(t, b.d, want)
			}
		}
	}
}

// P15.4: OpOpen with create makes a file where there is none, of the number Next, with a fresh lock, which all data servers are told of.
func TestOpenCreates(t *testing.T) {
	for _, mode := range []uint32{5, 6, 7, 8 + 5, top} {
		b := startAt(t, named(), 2, 4)
		want := b.s.State()
		p, l := b.ask(bob, openOf("/d/new", 3, mode, 2))
		b.same(p, l, answering(p, api.Op{File: 7}), sending(1, 1, 1, 0, fenceOf(7, 1, 0)), sending(2, 1, 1, 0, fenceOf(7, 1, 0)))
		want.Tree = append(want.Tree, api.Inode{Id: 7, Parent: 4, Name: "new"})
		want.Next = 8
		want.Opens = []api.Open{{Client: bob, Handle: 3, File: 7, Access: mode & 3, Deny: 2}}
		want.Locks = append(want.Locks, api.Lock{File: 7, Epoch: 1})
		want = seated(want, l[0])
		b.is(want)
		keeps(t, b.d, want)
	}
}

// P15.4: OpOpen's errors, those of Find first, then what can't be made, and then the open's; with an error no file is made.
func TestOpenErrors(t *testing.T) {
	// has lets ann have so many opens, of which the first has the handle that is asked for, if taken is 1.
	has := func(x *scene, n int, taken uint32) {
		x.s.Opens = slices.DeleteFunc(x.s.Opens, func(o api.Open) bool { return o.Client == ann })
		for h := range uint32(n) {
			x.s.Opens = slices.Insert(x.s.Opens, int(h), api.Open{Client: ann, Handle: 2 - taken + h, File: 2, Access: 1})
		}
	}
	adds := []fault{
		{"no access", api.ErrArg, func(x *scene) { x.o.Mode &^= 3 }},
		{"what can't be denied", api.ErrArg, func(x *scene) { x.o.Deny = 4 }},
		{"a great deny", api.ErrArg, func(x *scene) { x.o.Deny = top }},
		{"the handle is taken", api.ErrThere, func(x *scene) { has(x, max(1, len(x.s.Opens)), 1) }},
		{"the client has 4", api.ErrMany, func(x *scene) { has(x, 4, 0) }},
	}
	shared := fault{"bob denies it", api.ErrShare, func(x *scene) {
		x.s.Opens = append(x.s.Opens, api.Open{Client: bob, Handle: 1, File: 5, Access: 1, Deny: 3})
	}}
	nothing := func(path string, e api.Errno) fault {
		return fault{path, e, func(x *scene) { x.o.Path = path }}
	}
	finds := []fault{
		nothing("a", api.ErrName), nothing("", api.ErrName), nothing("/", api.ErrIsDir), nothing("/d", api.ErrIsDir),
		nothing("/a/b", api.ErrNotDir), nothing("/d/f/x", api.ErrNotDir),
	}
	there := func() scene { return scene{s: named(), o: openOf("/d/f", 1, 3, 0)} }
	faulty(t, there, append(slices.Concat(finds, []fault{nothing("/z", api.ErrNone), nothing("/z/z", api.ErrNone)}, adds), shared)...)
	// With create, a file that is there, or what can't be walked, is the same.
	also := func() scene { x := there(); x.o.Mode |= 4; return x }
	faulty(t, also, append(slices.Concat(finds, adds), shared)...)
	made := func() scene { return scene{s: named(), o: openOf("/d/new", 1, 7, 0)} }
	cant := []fault{
		nothing("a", api.ErrName), nothing("/a/b", api.ErrNotDir), nothing("/d", api.ErrIsDir),
		{"no create", api.ErrNone, func(x *scene) { x.o.Mode &^= 4 }},
		{"40 locks", api.ErrMany, func(x *scene) { x.s = locked(x.s, 40) }},
		{"no number", api.ErrMany, func(x *scene) { x.s.Next = top }},
		nothing("/z/z", api.ErrNone),
		{"the directory is full", api.ErrMany, func(x *scene) { x.s, x.o.Path = crowded(x.s), "/new" }},
	}
	faulty(t, made, append(cant, adds...)...)
}

// P15.4: OpOpen with create at the edges: 39 locks, the last number.
func TestOpenEdges(t *testing.T) {
	s := locked(named(), 39)
	s.Next = top - 1
	b := startAt(t, s, 1, 4)
	p, l := b.ask(ann, openOf("/new", 0, 7, 0))
	b.same(p, l[:1], answering(p, api.Op{File: top - 1}))
	if got := b.s.State(); got.Next != top || len(got.Locks) != 40 || got.Locks[39].File != top-1 {
		t.Errorf("the state is %+v", got)
	}
	b.fails(ann, openOf("/more", 1, 7, 0), api.ErrMany)
	b.fails(ann, mkdirOf("/more"), api.ErrMany)
	// A file that is there needs neither a lock nor a number.
	b.tells(ann, openOf("/a", 1, 7, 0), api.Op{File: 2, Size: 10})
	// A lock that is gone counts until all data servers know of it.
	b.quiet()
	if n := len(b.s.State().Locks); n != 4 {
		t.Errorf("there are %d locks", n)
	}
	b.fails(ann, openOf("/more", 2, 7, 0), api.ErrMany)
}

// P15.4: OpClose: the open is gone, and with the last one of the file the client's hold; ErrFd.
func TestClose(t *testing.T) {
	s := full()
	s.Works = nil
	s.Locks[2].Fenced = true
	s.Opens = slices.Insert(s.Opens, 2, api.Open{Client: ann, Handle: 2, File: 3, Access: 2})
	b := startAt(t, s, 1, 4)
	b.tick()
	b.quiet()
	s = b.s.State()
	close := func(client int, handle uint32) {
		t.Helper()
		p, l := b.ask(client, closeOf(handle))
		b.same(p, l, answering(p, api.Op{}))
		s.Opens = slices.DeleteFunc(s.Opens, func(o api.Open) bool { return o.Client == uint32(client) && o.Handle == handle })
		s = seated(s, l[0])
	}
	close(ann, 1)
	b.is(s)
	close(ann, 2)
	s.Locks[1].Holders = []api.Holder{{Client: bob, Mode: 1}}
	b.is(s)
	keeps(t, b.d, s)
	close(ann, 0)
	s.Locks[0].Holders = nil
	b.is(s)
	for _, handle := range []uint32{0, 1, 2, 3, top} {
		b.fails(ann, closeOf(handle), api.ErrFd)
	}
	b.fails(cat, closeOf(0), api.ErrFd)
	// It was the first request of cat's life.
	close(bob, 0)
	s.Locks[1].Holders = nil
	if got := b.s.State(); len(got.Opens) != 0 || len(got.Locks[1].Holders) != 0 {
		t.Errorf("the state is %+v", got)
	}
}

// P15.4: OpMkdir makes a directory of the number Next; ErrMany for the last number ahead of all that Make says.
func TestMkdir(t *testing.T) {
	b := startAt(t, named(), 1, 4)
	want := b.s.State()
	p, l := b.ask(ann, mkdirOf("/d/new"))
	b.same(p, l, answering(p, api.Op{}))
	want.Tree = append(want.Tree, api.Inode{Id: 7, Parent: 4, Name: "new", Dir: true})
	want.Next = 8
	b.is(seated(want, l[0]))
	good := func() scene { return scene{s: named(), o: mkdirOf("/d/new")} }
	faulty(t, good,
		fault{"no number", api.ErrMany, func(x *scene) { x.s.Next = top }},
		fault{"no path", api.ErrName, badName},
		fault{"the root", api.ErrThere, func(x *scene) { x.o.Path = "/" }},
		fault{"nowhere", api.ErrNone, func(x *scene) { x.o.Path = "/z/z" }},
		fault{"in a file", api.ErrNotDir, func(x *scene) { x.o.Path = "/a/z" }},
		fault{"a file is there", api.ErrThere, func(x *scene) { x.o.Path = "/d/f" }},
		fault{"a directory is there", api.ErrThere, func(x *scene) { x.o.Path = "/d" }},
	)
	faulty(t, good, fault{"the directory is full", api.ErrMany, func(x *scene) { x.s, x.o.Path = crowded(x.s), "/new" }})
	// Directories have no locks, so that their number is not asked.
	x := scene{s: locked(named(), 40), o: mkdirOf("/d/new")}
	b, _, p, l = x.play(t)
	b.same(p, l, answering(p, api.Op{}))
}

// P15.4: OpRemove: the file is gone, its lock turned and gone, and data servers free it; then the lock is gone too.
func TestRemove(t *testing.T) {
	for _, fenced := range []bool{true, false} {
		s := named()
		s.Locks[0].Fenced, s.Locks[0].Used = fenced, 2
		b := startAt(t, s, 2, 4)
		want := b.s.State()
		p, l := b.ask(ann, removeOf("/a"))
		b.same(p, l, answering(p, api.Op{}), sending(1, 1, 1, 0, freeOf(2)), sending(2, 1, 1, 0, freeOf(2)))
		want.Tree = slices.Delete(want.Tree, 1, 2)
		want.Locks[0] = api.Lock{File: 2, Epoch: 6, Gone: true}
		want = seated(want, l[0])
		b.is(want)
		b.replies(2, "")
		b.is(want)
		b.replies(1, "")
		want.Locks = want.Locks[1:]
		b.is(want)
		keeps(t, b.d, want)
	}
}

// P15.4: OpRemove's errors: those of Remove, and ErrBusy if the file is open, by whomever, or has a work.
func TestRemoveErrors(t *testing.T) {
	opened := func(client, handle uint32) func(x *scene) {
		return func(x *scene) {
			x.s.Opens = []api.Open{{Client: client, Handle: handle, File: 5, Access: 3}}
		}
	}
	faulty(t, func() scene { return scene{s: named(), o: removeOf("/d/f")} },
		fault{"no path", api.ErrName, badName},
		fault{"nowhere", api.ErrNone, func(x *scene) { x.o.Path = "/z" }},
		fault{"in a file", api.ErrNotDir, func(x *scene) { x.o.Path = "/a/z" }},
		fault{"a directory", api.ErrIsDir, func(x *scene) { x.o.Path = "/e" }},
		fault{"the root", api.ErrBusy, func(x *scene) { x.o.Path = "/" }},
		fault{"open", api.ErrBusy, opened(ann, 0)},
		fault{"open by bob", api.ErrBusy, opened(bob, 9)},
		fault{"a work", api.ErrBusy, func(x *scene) {
			x.s.Works = []api.Work{{File: 5, Client: bob, Life: 1, Seq: 1, Code: api.OpGive, Len: 1}}
		}},
	)
	// What others have open is no matter.
	s := named()
	s.Opens = []api.Open{{Client: ann, Handle: 5, File: 3, Access: 3}}
	b := startAt(t, s, 1, 4)
	b.does(bob, removeOf("/a"), sending(1, 1, 1, 0, freeOf(2)))
}

// P15.4: OpRmdir and OpRename, and their errors; neither locks nor numbers change.
func TestRmdirRename(t *testing.T) {
	b := startAt(t, named(), 1, 4)
	want := b.s.State()
	p, l := b.ask(ann, rmdirOf("/e"))
	b.same(p, l, answering(p, api.Op{}))
	want.Tree = want.Tree[:5]
	want = seated(want, l[0])
	b.is(want)
	p, l = b.ask(ann, renameOf("/d/f", "/g"))
	b.same(p, l, answering(p, api.Op{}))
	want.Tree[4].Parent, want.Tree[4].Name = 1, "g"
	want = seated(want, l[0])
	b.is(want)
	p, l = b.ask(ann, renameOf("/g", "/g"))
	b.same(p, l, answering(p, api.Op{}))
	b.is(seated(want, l[0]))
	faulty(t, func() scene { return scene{s: named(), o: rmdirOf("/e")} },
		fault{"no path", api.ErrName, badName},
		fault{"nowhere", api.ErrNone, func(x *scene) { x.o.Path = "/z" }},
		fault{"in a file", api.ErrNotDir, func(x *scene) { x.o.Path = "/a/z" }},
		fault{"the root", api.ErrBusy, func(x *scene) { x.o.Path = "/" }},
		fault{"a file", api.ErrNotDir, func(x *scene) { x.o.Path = "/a" }},
		fault{"not empty", api.ErrEmpty, func(x *scene) { x.o.Path = "/d" }},
	)
	faulty(t, func() scene { return scene{s: named(), o: renameOf("/d", "/x")} },
		fault{"no path", api.ErrName, badName},
		fault{"no other path", api.ErrName, func(x *scene) { x.o.Other = "x" }},
		fault{"nowhere", api.ErrNone, func(x *scene) { x.o.Path = "/z" }},
		fault{"the root", api.ErrBusy, func(x *scene) { x.o.Path = "/" }},
		fault{"into nowhere", api.ErrNone, func(x *scene) { x.o.Other = "/z/x" }},
		fault{"into a file", api.ErrNotDir, func(x *scene) { x.o.Other = "/a/x" }},
		fault{"into itself", api.ErrArg, func(x *scene) { x.o.Other = "/d/x" }},
		fault{"onto another", api.ErrThere, func(x *scene) { x.o.Other = "/a" }},
	)
}

// P15.4: OpList tells the names in order, separated by slashes; as many and as long as there can be, too.
func TestList(t *testing.T) {
	b := startAt(t, named(), 1, 4)
	b.tells(ann, listOf("/"), api.Op{Data: "a/b/d/e"})
	b.tells(ann, listOf("/d"), api.Op{Data: "f"})
	b.tells(ann, listOf("/e"), api.Op{})
	var names []string
	for i := range 12 {
		name := "longest" + string(rune('l'-i))
		names = append(names, name)
		b.does(bob, mkdirOf("/e/"+name))
	}
	slices.Reverse(names)
	b.tells(ann, listOf("/e"), api.Op{Data: strings.Join(names, "/")})
	faulty(t, func() scene { return scene{s: named(), o: listOf("/")} },
		fault{"no path", api.ErrName, badName},
		fault{"nowhere", api.ErrNone, func(x *scene) { x.o.Path = "/z" }},
		fault{"in a file", api.ErrNotDir, func(x *scene) { x.o.Path = "/a/z" }},
		fault{"a file", api.ErrNotDir, func(x *scene) { x.o.Path = "/a" }},
	)
}

// P15.4: OpStat tells File, Size, and Mode 1 for a directory.
func TestStat(t *testing.T) {
	b := startAt(t, named(), 1, 4)
	b.tells(ann, statOf("/"), api.Op{File: 1, Mode: 1})
	b.tells(ann, statOf("/a"), api.Op{File: 2, Size: 10})
	b.tells(ann, statOf("/d"), api.Op{File: 4, Mode: 1})
	b.tells(ann, statOf("/d/f"), api.Op{File: 5, Size: 30})
	faulty(t, func() scene { return scene{s: named(), o: statOf("/")} },
		fault{"no path", api.ErrName, badName},
		fault{"nowhere", api.ErrNone, func(x *scene) { x.o.Path = "/z" }},
		fault{"in a file", api.ErrNotDir, func(x *scene) { x.o.Path = "/a/z" }},
	)
}

// P15.12: OpList and OpStat, with and without an error, change nothing but the client's seat: neither queues nor recalls nor works, so that all that follows is as without them.
func TestListAndStatChangeNothing(t *testing.T) {
	for _, o := range []api.Op{listOf("/"), listOf("/none"), listOf("/a"), listOf("x"), statOf("/"), statOf("/a"), statOf("/none"), statOf("x")} {
		b, twin := startAt(t, full(), 2, 4), startAt(t, full(), 2, 4)
		for _, x := range []*bench{b, twin} {
			x.tick()
			x.ask(cat, openOf("/a", 0, 3, 0))
			x.ask(cat, getOf(0, 1))
		}
		for range 8 {
			was := b.s.State()
			p, l := b.ask(dan, o)
			if len(l) != 1 || l[0].To != dan || l[0].Op.Code != o.Code {
				t.Errorf("%+v sends %+v", p, l)
				continue
			}
			b.is(seated(was, l[0]))
			b.ticks(twin.tick()...)
			if _, out := b.out[1]; out {
				b.replies(1, "", twin.reply(1, api.OK, "")...)
			}
		}
	}
}
