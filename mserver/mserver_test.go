package mserver

import (
	"slices"
	"strings"
	"testing"

	"lamella/api"
	"lamella/device"
	"lamella/ledger"
)

// full is a state that has something of everything: files, a directory, opens, locks that are settled, that are not and that are gone, holders, a work and seats.
func full() api.State {
	s := filed(3, 10, 20, 0)
	s.Boot, s.Next = 7, 9
	s.Tree = append(s.Tree, api.Inode{Id: 6, Parent: 1, Name: "d", Dir: true})
	s.Opens = []api.Open{
		{Client: ann, Handle: 0, File: 2, Access: 3}, {Client: ann, Handle: 1, File: 3, Access: 1},
		{Client: bob, Handle: 0, File: 3, Access: 3},
	}
	s.Locks[0].Used, s.Locks[0].Holders = 2, []api.Holder{{Client: ann, Mode: 2}}
	s.Locks[1].Used, s.Locks[1].Holders = 1, []api.Holder{{Client: ann, Mode: 1}, {Client: bob, Mode: 1}}
	s.Locks[2].Fenced = false
	s.Locks = append(s.Locks, api.Lock{File: 5, Epoch: 4, Gone: true})
	s.Works = []api.Work{{File: 3, Client: bob, Life: 2, Seq: 6, Code: api.OpTake, Off: 18, Len: 5, Data: "hello"}}
	s.Seats = []api.Heard{
		{Client: ann, Reply: answering(asking(ann, 1, 9, statOf("/a")), api.Op{File: 2, Size: 10})},
		{Client: bob, Reply: failing(asking(bob, 2, 5, getOf(0, 2)), api.ErrDelay)},
	}
	return s
}

// P15.1: wrong arguments, each alone and with others, on devices that would have other errors; the edges are right.
func TestStartArguments(t *testing.T) {
	for _, servers := range []int{-1 << 63, -1, 0, 1, 16, 17, 1 << 40} {
		for _, unit := range []int{-1 << 63, -1, 0, 1, 64, 65, 1 << 40} {
			for _, size := range []int{0, 1, 42, 41 + 159, 41 + 160, 1024} {
				var d *device.Device
				if size > 0 {
					d = device.New(size)
				}
				want := api.OK
				if servers < 1 || servers > 16 || unit < 1 || unit > 64 || size < 41+160 {
					want = api.ErrArg
				}
				s, e := Start(d, servers, unit)
				if e != want || (s == nil) != (e != api.OK) {
					t.Errorf("Start(%d blocks, %d, %d) = %v, %d, want %d", size, servers, unit, s, e, want)
				}
				if e == api.ErrArg && d.Blocks() > 0 && slices.ContainsFunc(settled(d), func(b string) bool { return b != zeros(256) }) {
					t.Errorf("Start(%d blocks, %d, %d) writes", size, servers, unit)
				}
			}
		}
	}
	small := device.New(41 + 159)
	small.Fuse(0)
	small.Barrier()
	if s, e := Start(small, 1, 1); s != nil || e != api.ErrArg {
		t.Errorf("Start(small and dead) = %v, %d", s, e)
	}
}

// P15.1: the errors of rows' Open: the device is dead, or spoilt below the rows' meaning.
func TestStartOpen(t *testing.T) {
	d := device.New(blocks)
	d.Fuse(0)
	d.Barrier()
	if s, e := Start(d, 2, 4); s != nil || e != api.ErrDead {
		t.Errorf("Start(dead) = %v, %d", s, e)
	}
	d = device.New(blocks)
	d.Write(50, zeros(8)+"no row"+zeros(242))
	d.Barrier()
	if s, e := Start(d, 2, 4); s != nil || e != api.ErrSpoilt {
		t.Errorf("Start(spoilt) = %v, %d", s, e)
	}
}

// P15.1: rows that are no state's, for each letter; the device is left as it is.
func TestStartSpoilt(t *testing.T) {
	good := full()
	for _, c := range rowsOf(t, good) {
		for _, x := range []struct {
			what string
			l    []api.Change
		}{
			{"longer", []api.Change{{Key: c.Key, Value: c.Value + zeros(4)}}},
			{"under another key", []api.Change{{Key: c.Key, Gone: true}, {Key: "Z" + c.Key[1:], Value: c.Value}}},
			{"empty", []api.Change{{Key: c.Key}}},
		} {
			d := laid(t, good)
			lay(t, d, x.l...)
			before := settled(d)
			if s, e := Start(d, 2, 4); s != nil || e != api.ErrSpoilt {
				t.Errorf("Start(%q %s) = %v, %d", c.Key, x.what, s, e)
			}
			if !slices.Equal(before, settled(d)) || d.Unsettled() > 0 {
				t.Errorf("Start(%q %s) writes", c.Key, x.what)
			}
		}
	}
	for _, c := range []api.Change{{Key: "B", Value: number(1)}, {Key: "X"}, {Key: "I", Value: number(2)}} {
		d := device.New(blocks)
		lay(t, d, c)
		if s, e := Start(d, 2, 4); s != nil || e != api.ErrSpoilt {
			t.Errorf("Start(%q alone) = %v, %d", c.Key, s, e)
		}
	}
	// A work of a file whose lock is gone is no state's, nor is an open of it.
	for _, spoil := range []api.Change{
		{Key: "W" + number(5), Value: number(bob) + number(2) + number(6) + number(23) + number(0) + number(1) + number(0)},
		{Key: "O" + number(ann) + number(2), Value: number(5) + number(1) + number(0)},
	} {
		d := laid(t, good)
		lay(t, d, spoil)
		if s, e := Start(d, 2, 4); s != nil || e != api.ErrSpoilt {
			t.Errorf("Start(%q of a file that is gone) = %v, %d", spoil.Key, s, e)
		}
	}
}

// P15.1: the boot is counted, up to the last one: behind it there is none.
func TestStartBoot(t *testing.T) {
	for _, boot := range []uint32{0, 1, 41, top - 2, top - 1} {
		s := full()
		s.Boot = boot
		b := start(t, laid(t, s), 2, 4)
		s.Boot++
		b.is(s)
		keeps(t, b.d, s)
	}
	s := full()
	s.Boot = top
	d := laid(t, s)
	before := settled(d)
	for range 2 {
		if got, e := Start(d, 2, 4); got != nil || e != api.ErrMany {
			t.Errorf("Start(boot 2^32 - 1) = %v, %d", got, e)
		}
	}
	if !slices.Equal(before, settled(d)) {
		t.Error("Start(boot 2^32 - 1) writes")
	}
	// ErrSpoilt is mentioned first.
	lay(t, d, api.Change{Key: "X"})
	if got, e := Start(d, 2, 4); got != nil || e != api.ErrSpoilt {
		t.Errorf("Start(boot 2^32 - 1, spoilt) = %v, %d", got, e)
	}
}

// P15.1: on an empty device the state is the fresh one, with the boot 1, and all of its rows are there; a server that begins anew finds them. Nothing is sent, and nothing is due.
func TestStartEmpty(t *testing.T) {
	for _, servers := range []int{1, 16} {
		b := startNew(t, servers, 64)
		want := api.State{Boot: 1, Next: 2, Tree: []api.Inode{{Id: 1, Dir: true}}}
		b.is(want)
		keeps(t, b.d, want)
		if got := kept(t, b.d); len(got) != 2 {
			t.Errorf("the rows are %v", got)
		}
		b.ticks()
		for boot := range uint32(3) {
			b.restart()
			want.Boot = boot + 2
			b.is(want)
			keeps(t, b.d, want)
		}
	}
}

// P15.1: the commit's error is told: a log that can do no more commits, and a device that dies.
func TestStartCommit(t *testing.T) {
	d := device.New(blocks)
	mark := "LCOM" + number(top)
	d.Write(0, mark+zeros(256-len(mark)))
	d.Barrier()
	if s, e := Start(d, 1, 1); s != nil || e != api.ErrMany {
		t.Errorf("Start(worn) = %v, %d", s, e)
	}
	d = device.New(blocks)
	d.Fuse(3)
	if s, e := Start(d, 1, 1); s != nil || e != api.ErrDead {
		t.Errorf("Start(it dies) = %v, %d", s, e)
	}
}

// P15.1: lines have the boot as their life, 0 as the servers' boot, and their first request has the number 1; what was outstanding is lost with the server.
func TestStartLines(t *testing.T) {
	b := startNew(t, 2, 4)
	p, l := b.ask(ann, openOf("/a", 0, 7, 0))
	b.same(p, l, answering(p, api.Op{File: 2}), sending(1, 1, 1, 0, fenceOf(2, 1, 0)), sending(2, 1, 1, 0, fenceOf(2, 1, 0)))
	for life := range uint32(3) {
		b.restart()
		b.ticks(sending(1, life+2, 1, 0, fenceOf(2, 1, 0)), sending(2, life+2, 1, 0, fenceOf(2, 1, 0)))
	}
}

// P15.1, P15.6: a server that has a state goes on with it, at whatever comes first: what isn't settled is fenced, what is gone is freed, and the work is begun.
func TestStartGoesOn(t *testing.T) {
	goes := []api.Packet{
		calling(ann, 3, 3), calling(bob, 3, 3),
		sending(1, 8, 1, 0, fenceOf(4, 3, 0)), sending(2, 8, 1, 0, fenceOf(4, 3, 0)),
	}
	b := startAt(t, full(), 2, 4)
	b.ticks(goes...)
	b.replies(1, "", sending(1, 8, 2, 0, freeOf(5)))
	b = startAt(t, full(), 2, 4)
	b.same("a packet that is ignored", b.handle(calling(0, 2, 2)), goes...)
	b = startAt(t, full(), 2, 4)
	again := asking(bob, 2, 5, statOf("/"))
	b.same(again, b.handle(again), append([]api.Packet{failing(asking(bob, 2, 5, getOf(0, 2)), api.ErrDelay)}, goes...)...)
	b = startAt(t, full(), 2, 4)
	b.fails(ann, mkdirOf("/a"), api.ErrThere, goes...)
}

// P15.2: packets that are not valid or not to 0 do nothing, and nothing proceeds; what is valid but none of its business is ignored.
func TestHandleIgnores(t *testing.T) {
	ready := func() *bench { return startAt(t, full(), 2, 4) }
	was := ready().s.State()
	good := asking(ann, 1, 10, mkdirOf("/new"))
	for what, change := range map[string]func(p *api.Packet){
		"Kind 0":               func(p *api.Packet) { p.Kind = 0 },
		"Kind 4":               func(p *api.Packet) { p.Kind = 4 },
		"From -1":              func(p *api.Packet) { p.From = -1 },
		"From 256":             func(p *api.Packet) { p.From = 256 },
		"To 1":                 func(p *api.Packet) { p.To = 1 },
		"To -1":                func(p *api.Packet) { p.To = -1 },
		"To 17":                func(p *api.Packet) { p.To = 17 },
		"To 256":               func(p *api.Packet) { p.To = 256 },
		"Code 0":               func(p *api.Packet) { p.Op.Code = 0 },
		"Code 10":              func(p *api.Packet) { p.Op.Code = api.OpOpen - 1 },
		"Code 25":              func(p *api.Packet) { p.Op.Code = api.OpTake + 1 },
		"Code 30":              func(p *api.Packet) { p.Op.Code = api.OpRecall },
		"Code -1":              func(p *api.Packet) { p.Op.Code = -1 },
		"Code 2^62":            func(p *api.Packet) { p.Op.Code = 1 << 62 },
		"Err":                  func(p *api.Packet) { p.Op.Err = api.ErrArg },
		"a Path that is long":  func(p *api.Packet) { p.Op.Path = strings.Repeat("/a", 33) },
		"an Other that's long": func(p *api.Packet) { p.Op.Other = strings.Repeat("/a", 33) },
		"Data that are long":   func(p *api.Packet) { p.Op.Data = zeros(129) },
	} {
		b := ready()
		p := good
		change(&p)
		b.same(what, b.handle(p))
		b.is(was)
	}
	proceeds := ready().s.Handle(calling(0, 1, 1))
	if len(proceeds) != 4 {
		t.Errorf("a packet that is ignored sends %+v", proceeds)
	}
	for what, p := range map[string]api.Packet{
		"a request of 16":            asking(16, 1, 1, mkdirOf("/new")),
		"a request of 21":            asking(21, 1, 1, mkdirOf("/new")),
		"a request of 0":             asking(0, 1, 1, mkdirOf("/new")),
		"a request of 255":           asking(255, 1, 1, mkdirOf("/new")),
		"a request of a data server": asking(1, 1, 1, mkdirOf("/new")),
		"OpWrite":                    asking(ann, 1, 10, writeTo(2, 3, 0, "x")),
		"OpFree, just below OpOpen":  asking(ann, 1, 10, freeOf(2)),
		"a reply of a client":        replying(sending(ann, 8, 1, 0, fenceOf(4, 3, 0)), 0, api.OK, ""),
		"a reply of no data server":  replying(sending(3, 8, 1, 0, fenceOf(4, 3, 0)), 0, api.OK, ""),
		"a reply of 0":               replying(sending(0, 8, 1, 0, fenceOf(4, 3, 0)), 0, api.OK, ""),
		"a call":                     calling(0, 2, 3),
	} {
		b := ready()
		b.same(what, b.handle(p), proceeds...)
		b.is(was)
		b.same(what, b.handle(p))
		b.is(was)
	}
}

// P15.2: a request of each client that may be is answered.
func TestHandleClients(t *testing.T) {
	b := startNew(t, 1, 1)
	for client := 17; client <= 20; client++ {
		b.does(client, mkdirOf("/"+string(rune('a'+client-17))))
	}
	b.tells(ann, listOf("/"), api.Op{Data: "a/b/c/d"})
}

// P15.2: of 16 data servers the last one is heard, though its number is next to the clients'.
func TestHandleLastServer(t *testing.T) {
	b := startNew(t, 16, 4)
	b.ask(ann, openOf("/a", 0, 7, 0))
	for server := 1; server <= 16; server++ {
		if b.lock(2).Fenced {
			t.Fatalf("the lock is settled ahead of %d", server)
		}
		b.replies(server, "")
	}
	b.locked(api.Lock{File: 2, Epoch: 1, Fenced: true})
}

// P15.8: a nil server is down and does nothing.
func TestNil(t *testing.T) {
	var s *Server
	if !s.Down() {
		t.Error("a nil server is not down")
	}
	if l := s.Handle(asking(ann, 1, 1, mkdirOf("/d"))); len(l) != 0 {
		t.Errorf("Handle = %v", l)
	}
	if l := s.Tick(); len(l) != 0 {
		t.Errorf("Tick = %v", l)
	}
	if !ledger.Same(s.State(), api.State{}) {
		t.Errorf("State = %v", s.State())
	}
}

// P15.8: State is the server's, behind each kind of change.
func TestState(t *testing.T) {
	b := startNew(t, 1, 4)
	b.ask(ann, mkdirOf("/d"))
	_, l := b.ask(ann, openOf("/d/f", 5, 7, 0))
	want := api.State{
		Boot: 1, Next: 4,
		Tree:  []api.Inode{{Id: 1, Dir: true}, {Id: 2, Parent: 1, Name: "d", Dir: true}, {Id: 3, Parent: 2, Name: "f"}},
		Opens: []api.Open{{Client: ann, Handle: 5, File: 3, Access: 3}},
		Locks: []api.Lock{{File: 3, Epoch: 1}},
		Seats: []api.Heard{{Client: ann, Reply: l[0]}},
	}
	b.is(want)
	keeps(t, b.d, want)
	b.replies(1, "")
	want.Locks[0].Fenced = true
	b.is(want)
	keeps(t, b.d, want)
}

// scribble writes over all lists of a state.
func scribble(s api.State) {
	for i := range s.Tree {
		s.Tree[i] = api.Inode{Id: 99, Name: "x"}
	}
	for i := range s.Opens {
		s.Opens[i] = api.Open{Client: 99}
	}
	for i := range s.Locks {
		for j := range s.Locks[i].Holders {
			s.Locks[i].Holders[j] = api.Holder{Client: 99}
		}
		s.Locks[i] = api.Lock{File: 99}
	}
	for i := range s.Works {
		s.Works[i] = api.Work{File: 99}
	}
	for i := range s.Seats {
		s.Seats[i] = api.Heard{Client: 99}
	}
}

// reach lets all that a list may have lie open: its spare capacity too.
func reach(s api.State) api.State {
	s.Tree = s.Tree[:cap(s.Tree)]
	s.Opens = s.Opens[:cap(s.Opens)]
	s.Locks = s.Locks[:cap(s.Locks)]
	for i := range s.Locks {
		s.Locks[i].Holders = s.Locks[i].Holders[:cap(s.Locks[i].Holders)]
	}
	s.Works = s.Works[:cap(s.Works)]
	s.Seats = s.Seats[:cap(s.Seats)]
	return s
}

// Rule 4: what State tells is new memory: writing over it changes neither the server nor what another State told, and the server's changes don't change it.
func TestStateMemory(t *testing.T) {
	b := startAt(t, full(), 2, 4)
	want := full()
	want.Boot++
	first, second := b.s.State(), b.s.State()
	scribble(reach(first))
	b.is(want)
	if !ledger.Same(second, want) {
		t.Errorf("the other State is %+v", second)
	}
	for _, o := range []api.Op{mkdirOf("/e"), openOf("/a", 3, 3, 0), closeOf(1), openOf("/c", 2, 3, 0), returnOf(2, 3), removeOf("/b"), rmdirOf("/d"), renameOf("/a", "/z")} {
		before := b.s.State()
		copied := clone(before)
		b.ask(ann, o)
		b.tick()
		b.quiet()
		if !ledger.Same(before, copied) {
			t.Errorf("%+v changes what State told", o)
		}
		after := b.s.State()
		copied = clone(after)
		scribble(reach(before))
		b.is(copied)
	}
	for range 20 {
		before := b.s.State()
		copied := clone(before)
		b.tick()
		b.quiet()
		if !ledger.Same(before, copied) {
			t.Error("a tick changes what State told")
		}
		scribble(reach(before))
	}
}

// Rule 4: what Handle and Tick tell is new memory.
func TestSentMemory(t *testing.T) {
	over := func(l []api.Packet) {
		for i := range l[:cap(l)] {
			l[:cap(l)][i] = api.Packet{Kind: 99}
		}
	}
	b, twin := startAt(t, full(), 2, 4), startAt(t, full(), 2, 4)
	var last []api.Packet
	var copied []api.Packet
	check := func(what any, got, want []api.Packet) {
		t.Helper()
		b.same(what, got, want...)
		b.is(twin.s.State())
		if !slices.Equal(last, copied) {
			t.Errorf("%+v changes what was sent ahead of it", what)
		}
		if len(last) > 0 {
			over(last)
		}
		last, copied = got, slices.Clone(got)
	}
	for i := range 12 {
		check("a tick", b.tick(), twin.tick())
		o := []api.Op{openOf("/c", 2, 3, 0), getOf(0, 2), mkdirOf("/e"), getOf(2, 1), statOf("/a"), closeOf(2)}[i%6]
		p, got := b.ask(ann, o)
		_, want := twin.ask(ann, o)
		check(p, got, want)
		for server := 1; server <= 2; server++ {
			if _, out := b.out[server]; out {
				check(server, b.reply(server, api.OK, "abc"), twin.reply(server, api.OK, "abc"))
			}
		}
	}
}

// Rule 6: two servers on devices of their own don't touch each other.
func TestServersApart(t *testing.T) {
	b, other := startNew(t, 1, 4), startNew(t, 2, 8)
	b.made(ann, "/a", 0, 3)
	other.is(api.State{Boot: 1, Next: 2, Tree: []api.Inode{{Id: 1, Dir: true}}})
	other.does(bob, mkdirOf("/d"))
	b.fails(ann, statOf("/d"), api.ErrNone)
}
