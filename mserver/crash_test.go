package mserver

import (
	"slices"
	"testing"

	"lamella/api"
	"lamella/device"
	"lamella/ledger"
)

// subsets are what a crash may keep of n unsettled writes: each subset, or, of many writes, some.
func subsets(n int) []uint64 {
	if n > 3 {
		return []uint64{0, 1, 2, 1 << (n - 1), 0x5555555555555555, 0xaaaaaaaaaaaaaaaa, every - 1, every}
	}
	var l []uint64
	for keep := range uint64(1) << n {
		l = append(l, keep)
	}
	return l
}

// booted is a state with another boot.
func booted(s api.State, boot uint32) api.State {
	s.Boot = boot
	return s
}

// deathScene is a call of which the device dies: what is there ahead of it, and the call, be it a request, a data server's reply or a tick.
type deathScene struct {
	what  string
	ahead func(t *testing.T) *bench
	call  func(b *bench) []api.Packet
	// commits is how many commits the call makes.
	commits int
	// then is what ann asks behind it: a recall that was lost is not begun again of itself.
	then []api.Op
}

// asks is a request of ann's as a call.
func asks(o api.Op) func(b *bench) []api.Packet {
	return func(b *bench) []api.Packet { return b.handle(b.next(ann, o)) }
}

// playing is a server of this state, behind a tick and what is done then.
func playing(s api.State, ahead ...func(b *bench)) func(t *testing.T) *bench {
	return func(t *testing.T) *bench {
		b := startAt(t, s, 2, 4)
		b.tick()
		for _, do := range ahead {
			do(b)
		}
		return b
	}
}

// What is done ahead of a call.

func giving(b *bench) { b.ask(ann, giveOf(0, 2, 2)) }
func taking(b *bench) { b.ask(ann, takeOf(0, 26, "abcdef")) }
func ticking(n int) func(b *bench) {
	return func(b *bench) {
		for range n {
			b.tick()
		}
	}
}

// lastReply answers what is outstanding till only one answer is missing.
func lastReply(b *bench) {
	for len(b.out) > 1 {
		for server := 1; server <= 2 && len(b.out) > 1; server++ {
			b.reply(server, api.OK, "")
		}
	}
}

// answered is that answer as a call.
func answered(b *bench) []api.Packet {
	for server, p := range b.out {
		delete(b.out, server)
		return b.handle(replying(p, p.Asked, api.OK, zeros(int(p.Op.Len))))
	}
	return nil
}

// quietly is a state in which nobody has anything open, but all were heard.
func quietly() api.State {
	s := named()
	s.Seats = opened(30, 0).Seats
	return s
}

// requestDeaths are requests of each code.
func requestDeaths() []deathScene {
	closed := quietly()
	reborn := func(b *bench) { b.reborn(ann) }
	return []deathScene{
		{"OpOpen", playing(closed), asks(openOf("/a", 0, 3, 0)), 1, nil},
		{"OpOpen that makes a file", playing(closed), asks(openOf("/d/n", 0, 7, 0)), 1, nil},
		{"OpOpen with an error", playing(closed), asks(openOf("/z", 0, 3, 0)), 1, nil},
		{"OpClose", playing(opened(30, 2, api.Holder{Client: ann, Mode: 2})), asks(closeOf(0)), 1, nil},
		{"OpMkdir", playing(closed), asks(mkdirOf("/n")), 1, nil},
		{"OpRemove", playing(closed), asks(removeOf("/a")), 1, nil},
		{"OpRmdir", playing(closed), asks(rmdirOf("/e")), 1, nil},
		{"OpRename", playing(closed), asks(renameOf("/d", "/e/d")), 1, nil},
		{"OpList", playing(closed), asks(listOf("/")), 1, nil},
		{"OpStat", playing(closed), asks(statOf("/a")), 1, nil},
		{"OpSize", playing(opened(30, 0)), asks(sizeTo(0, 5)), 1, nil},
		{"OpSize that waits", playing(opened(30, 1)), asks(sizeTo(0, 5)), 1, nil},
		{"OpGet", playing(opened(30, 0)), asks(getOf(0, 2)), 1, nil},
		{"OpGet that waits", playing(opened(30, 2)), asks(getOf(0, 2)), 1, nil},
		{"OpGet with a conflict", playing(opened(30, 2, api.Holder{Client: bob, Mode: 2})), asks(getOf(0, 2)), 1, []api.Op{getOf(0, 2)}},
		{"OpReturn", playing(opened(30, 2, api.Holder{Client: ann, Mode: 2})), asks(returnOf(2, 5)), 1, nil},
		{"OpGrew", playing(opened(30, 2, api.Holder{Client: ann, Mode: 2})), asks(grewOf(2, 5, 40)), 1, nil},
		{"OpGive", playing(opened(30, 0)), asks(giveOf(0, 2, 2)), 1, nil},
		{"OpGive that turns the lock", playing(opened(30, 1)), asks(giveOf(0, 2, 2)), 2, nil},
		{"OpGive behind the end", playing(opened(30, 0)), asks(giveOf(0, 30, 2)), 2, nil},
		{"OpTake", playing(opened(30, 0)), asks(takeOf(0, 29, "abc")), 1, nil},
		{"OpTake of nothing", playing(opened(30, 0)), asks(takeOf(0, 29, "")), 1, nil},
		{"a new life", playing(opened(30, 2, api.Holder{Client: ann, Mode: 2}), reborn), asks(openOf("/a", 0, 3, 0)), 1, nil},
		{"a new life with an error", playing(opened(30, 2, api.Holder{Client: ann, Mode: 2}), reborn), asks(closeOf(0)), 1, nil},
		{"a request ahead of which a work is turned", func(t *testing.T) *bench {
			s := opened(30, 1)
			s.Works = []api.Work{{File: 2, Client: bob, Life: 1, Seq: 5, Code: 24, Off: 29, Len: 2, Data: "ab"}}
			return startAt(t, s, 2, 4)
		}, asks(statOf("/")), 2, nil},
	}
}

// replyDeaths are calls that come of data servers, or of what others give back.
func replyDeaths() []deathScene {
	closed, unfenced := quietly(), opened(30, 0)
	unfenced.Locks[0].Fenced = false
	return []deathScene{
		{"the last answer to a fence", playing(unfenced, lastReply), answered, 1, nil},
		{"the last answer to a fence for which a work waits", playing(unfenced, giving, lastReply), answered, 1, nil},
		{"the last answer to a free", playing(closed, func(b *bench) { b.ask(ann, removeOf("/a")) }, lastReply), answered, 1, nil},
		{"the end of an OpGive", playing(opened(30, 0), giving, lastReply), answered, 1, nil},
		{"the end of an OpTake", playing(opened(30, 0), taking, lastReply), answered, 1, nil},
		{"an OpReturn for which a work waits", playing(opened(30, 1, api.Holder{Client: bob, Mode: 1}), giving), func(b *bench) []api.Packet { return b.handle(b.next(bob, returnOf(2, 5))) }, 2, nil},
	}
}

// tickDeaths are ticks.
func tickDeaths() []deathScene {
	return []deathScene{
		{"a tick that revokes", playing(opened(30, 2, api.Holder{Client: bob, Mode: 2}), func(b *bench) { b.ask(ann, getOf(0, 1)) }, ticking(5)), (*bench).tick, 1, []api.Op{getOf(0, 1)}},
		{"a tick that revokes, for which a work waits", playing(opened(30, 1, api.Holder{Client: bob, Mode: 1}), giving, ticking(5)), (*bench).tick, 1, nil},
		{"a tick that begins", func(t *testing.T) *bench {
			s := opened(30, 1)
			s.Works = []api.Work{{File: 2, Client: ann, Life: 1, Seq: 5, Code: 24, Off: 29, Len: 2, Data: "ab"}}
			return startAt(t, s, 2, 4)
		}, (*bench).tick, 1, nil},
		{"a tick of two works", func(t *testing.T) *bench {
			s := opened(30, 0)
			s.Tree, s.Next = append(s.Tree, api.Inode{Id: 3, Parent: 1, Name: "b"}), 4
			s.Locks = append(s.Locks, api.Lock{File: 3, Epoch: 1, Fenced: true})
			s.Works = []api.Work{
				{File: 2, Client: ann, Life: 1, Seq: 5, Code: 23, Off: 30, Len: 2},
				{File: 3, Client: bob, Life: 1, Seq: 5, Code: 23, Off: 0, Len: 2},
			}
			return startAt(t, s, 2, 4)
		}, (*bench).tick, 2, nil},
	}
}

// goesOn lets a server do all that is to be done: what is outstanding is answered, and ticks go by; the answers to clients are counted together.
func (b *bench) goesOn(sent []api.Packet) []api.Packet {
	b.t.Helper()
	all := slices.Clone(sent)
	for range 12 {
		all = append(all, b.quiet()...)
		all = append(all, b.tick()...)
	}
	all = append(all, b.quiet()...)
	var replies []api.Packet
	for _, p := range all {
		if p.Kind == api.PackReply && !slices.Contains(replies, p) {
			replies = append(replies, p)
		}
	}
	slices.SortFunc(replies, func(a, b api.Packet) int { return a.To - b.To })
	return replies
}

// P15.2, P15.6, P15.7, P15.11: the device dies at each write and barrier of each kind of call, and each subset of what is unsettled is kept: nothing is sent and the server is down; the server that begins anew has the state ahead of one of the call's commits, or behind it. What was asked arrives again, and all goes on: it is answered as it would have been, and done once.
func TestDeviceDies(t *testing.T) {
	for _, x := range slices.Concat(requestDeaths(), replyDeaths(), tickDeaths()) {
		b := x.ahead(t)
		var states []api.State
		rows := []api.State{x.kept(t)}
		sent := x.call(b)
		whole := b.s.State()
		replies := b.goesOn(x.rest(b, sent))
		end := booted(b.s.State(), 0)
		alive := false
		for fuse := 0; !alive; fuse++ {
			for _, keep := range subsets(x.unsettled(t, fuse)) {
				b := x.ahead(t)
				b.d.Fuse(fuse)
				l := x.call(b)
				if !b.s.Down() {
					b.same(x.what, l, sent...)
					b.is(whole)
					alive = true
					break
				}
				b.same(x.what, l)
				is := b.s.State()
				if !slices.ContainsFunc(states, func(s api.State) bool { return ledger.Same(s, is) }) {
					states = append(states, is)
				}
				b.isDown(is)
				b.d.Crash(keep)
				b.isDown(is)
				b.restart()
				got := booted(b.s.State(), 1)
				if !slices.ContainsFunc(rows, func(s api.State) bool { return ledger.Same(s, got) }) {
					rows = append(rows, got)
				}
				again := b.goesOn(x.rest(b, x.call(b)))
				if got := booted(b.s.State(), 0); !ledger.Same(got, end) {
					t.Errorf("in the end the state is %+v, want %+v", got, end)
				}
				if !slices.Equal(again, replies) {
					t.Errorf("%+v is answered, want %+v", again, replies)
				}
				if t.Failed() {
					t.Fatalf("%s, fuse %d, keep %x", x.what, fuse, keep)
				}
			}
		}
		if len(states) != x.commits || len(rows) != x.commits+1 {
			t.Errorf("%s: it died in %d states and left %d, want %d commits", x.what, len(states), len(rows), x.commits)
		}
	}
}

// rest is what the call has sent, what is sent when clients ask again for what they were not answered yet, and what is sent at that which ann asks then.
func (x deathScene) rest(b *bench, sent []api.Packet) []api.Packet {
	sent = slices.Clone(sent)
	s := b.s.State()
	for _, w := range s.Works {
		sent = append(sent, b.handle(asking(int(w.Client), w.Life, w.Seq, statOf("/")))...)
	}
	for _, h := range s.Seats {
		// Those of number 4 were answered long ago.
		if h.Reply.Seq != 4 {
			sent = append(sent, b.handle(asking(int(h.Client), h.Reply.Life, h.Reply.Seq, statOf("/")))...)
		}
	}
	for _, o := range x.then {
		sent = append(sent, b.handle(asking(ann, 1, 6, o))...)
	}
	return sent
}

// kept is the state that the device has ahead of the call.
func (x deathScene) kept(t *testing.T) api.State {
	t.Helper()
	b := x.ahead(t)
	b.restart()
	return booted(b.s.State(), 1)
}

// unsettled is how many writes are unsettled when the device has died of the call with this fuse.
func (x deathScene) unsettled(t *testing.T, fuse int) int {
	t.Helper()
	b := x.ahead(t)
	b.d.Fuse(fuse)
	x.call(b)
	return b.d.Unsettled()
}

// P15.1: the device dies at each write and barrier of a Start, and again in the one behind it: ErrDead, and no server; the state is there with its boot counted or not, and never twice.
func TestStartDies(t *testing.T) {
	fresh := api.State{Next: 2, Tree: []api.Inode{{Id: 1, Dir: true}}}
	for _, x := range []struct {
		what string
		d    func() *device.Device
		was  api.State
	}{
		{"a new device", func() *device.Device { return device.New(blocks) }, fresh},
		{"a state", func() *device.Device { return laid(t, full()) }, full()},
		{"a server's device", func() *device.Device { return startNew(t, 2, 4).d }, booted(fresh, 1)},
	} {
		for fuse := 0; ; fuse++ {
			d := x.d()
			d.Fuse(fuse)
			s, e := Start(d, 2, 4)
			if e == api.OK {
				if !ledger.Same(s.State(), booted(x.was, x.was.Boot+1)) {
					t.Errorf("%s: the state is %+v", x.what, s.State())
				}
				break
			}
			for _, keep := range subsets(d.Unsettled()) {
				d := x.d()
				d.Fuse(fuse)
				if s, e := Start(d, 2, 4); s != nil || e != api.ErrDead {
					t.Fatalf("%s, fuse %d: Start = %v, %d", x.what, fuse, s, e)
				}
				if s, e := Start(d, 2, 4); s != nil || e != api.ErrDead {
					t.Fatalf("%s, fuse %d: Start of the dead device = %v, %d", x.what, fuse, s, e)
				}
				d.Crash(keep)
				d.Fuse(fuse / 2)
				_, again := Start(d, 2, 4)
				d.Crash(keep / 3)
				s, e := Start(d, 2, 4)
				if e != api.OK {
					t.Fatalf("%s, fuse %d, keep %x: Start = %d", x.what, fuse, keep, e)
				}
				boot := s.State().Boot
				if boot <= x.was.Boot || boot > x.was.Boot+3 || again == api.OK && boot < x.was.Boot+2 {
					t.Errorf("%s, fuse %d, keep %x: the boot is %d, was %d", x.what, fuse, keep, boot, x.was.Boot)
				}
				if !ledger.Same(s.State(), booted(x.was, boot)) {
					t.Errorf("%s, fuse %d, keep %x: the state is %+v", x.what, fuse, keep, s.State())
				}
			}
		}
	}
}

// P15.2, P15.7: what changes no rows doesn't touch the device: it is sent though the device is dead, and the server isn't down; the first call that commits lets it be.
func TestDeadDeviceIsNotTouched(t *testing.T) {
	s := opened(30, 2, api.Holder{Client: bob, Mode: 2})
	s.Tree, s.Next = append(s.Tree, api.Inode{Id: 3, Parent: 1, Name: "b"}), 4
	s.Locks = append(s.Locks, api.Lock{File: 3, Epoch: 1})
	b := startAt(t, s, 2, 4)
	fences := []api.Packet{sending(1, 1, 1, 0, fenceOf(3, 1, 0)), sending(2, 1, 1, 0, fenceOf(3, 1, 0))}
	b.ticks(fences...)
	b.fails(ann, getOf(0, 1), api.ErrDelay, calling(bob, 2, 5))
	b.d.Fuse(0)
	b.d.Barrier()
	last := asking(ann, 1, 5, getOf(0, 1))
	b.same(last, b.handle(last), failing(last, api.ErrDelay))
	b.ticks(append(fences, calling(bob, 2, 5))...)
	b.replies(1, "")
	boot := asking(ann, 1, 6, getOf(0, 1))
	boot.Asked = 4
	b.same(boot, b.handle(boot), failing(boot, api.ErrBoot))
	for range 4 {
		b.tick()
	}
	was := b.s.State()
	if b.s.Down() {
		t.Fatal("the server is down")
	}
	b.ticks()
	b.isDown(was)
	b.d.Crash(every)
	b.isDown(was)
	b.restart()
	b.is(booted(was, 2))
}

// P15.2: where a commit has another error, since the log can do no more, the server is down as well: nothing is sent that isn't kept.
func TestWornLog(t *testing.T) {
	d := laid(t, filed(1, 5))
	mark := "LCOM" + number(top-1)
	d.Write(0, mark+zeros(256-len(mark)))
	d.Barrier()
	b := start(t, d, 1, 4)
	was := b.s.State()
	p := b.next(ann, mkdirOf("/d"))
	b.same(p, b.handle(p))
	b.isDown(was)
}

// P15.10, P15.11: over a long run of requests, each of which arrives three times and at which the device dies at some step, each is answered once, as it would have been, and epochs never decrease.
func TestExactlyOnce(t *testing.T) {
	b := startNew(t, 2, 4)
	twin := startNew(t, 2, 4)
	ops := []api.Op{
		mkdirOf("/d"), openOf("/d/a", 0, 7, 0), getOf(0, 2), grewOf(2, 1, 0), getOf(0, 2), returnOf(3, 1), takeOf(0, 3, "hello"),
		giveOf(0, 0, 64), sizeTo(0, 4), sizeTo(0, 4), giveOf(0, 0, 64), closeOf(0), closeOf(0), renameOf("/d/a", "/b"), rmdirOf("/d"), rmdirOf("/d"),
		removeOf("/b"), removeOf("/b"), mkdirOf("/b"), listOf("/"),
	}
	epochs := map[uint32]uint32{}
	for i := range 200 {
		o := ops[i%len(ops)]
		p, sent := twin.ask(ann, o)
		want := twin.goesOn(sent)
		b.d.Fuse(i * 7 % 23)
		got := b.handle(p)
		for range 3 {
			if b.s.Down() {
				b.crash(uint64(i) * 0x9e3779b97f4a7c15)
			}
			b.d.Fuse(-1)
			got = append(got, b.handle(p)...)
		}
		got = b.goesOn(got)
		if !slices.Equal(got, want) {
			t.Fatalf("%d: %+v is answered %+v, want %+v", i, p, got, want)
		}
		if !ledger.Same(booted(b.s.State(), 0), booted(twin.s.State(), 0)) {
			t.Fatalf("%d: behind %+v the state is %+v, want %+v", i, p, b.s.State(), twin.s.State())
		}
		for _, l := range b.s.State().Locks {
			if l.Epoch < epochs[l.File] {
				t.Fatalf("%d: the epoch of %d is %d, was %d", i, l.File, l.Epoch, epochs[l.File])
			}
			epochs[l.File] = l.Epoch
		}
	}
}
