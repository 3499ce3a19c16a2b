package mserver

import (
	"slices"
	"testing"

	"lamella/api"
)

// opened is a state in which ann, bob, cat and dan have been heard and have the file /a, of this size, open to read and write, by handle 0, with these holders in an epoch in which this was granted.
func opened(size, used uint32, holders ...api.Holder) api.State {
	s := filed(5, size)
	for client := uint32(17); client <= 20; client++ {
		s.Opens = append(s.Opens, api.Open{Client: client, Handle: 0, File: 2, Access: 3})
		s.Seats = append(s.Seats, api.Heard{Client: client, Reply: answering(asking(int(client), 1, 4, statOf("/")), api.Op{})})
	}
	s.Locks[0].Used, s.Locks[0].Holders = used, holders
	return s
}

// Faults of a request for the bytes of /a, which ann has open.

func noFd(x *scene)     { x.o.Handle = 9 }
func readOnly(x *scene) { x.s.Opens[0].Access = 1 }
func writeOnly(x *scene) {
	x.s.Opens[0].Access = 2
}
func workOfBob(x *scene) {
	x.s.Works = []api.Work{{File: 2, Client: bob, Life: 1, Seq: 5, Code: api.OpGive, Len: 1}}
	x.s.Locks[0].Holders = nil
}

// P15.4: an OpGet where nobody is in the way: the File, the Epoch, the Size and the Mode are told, and the lock has the holder.
func TestGet(t *testing.T) {
	for _, x := range []struct {
		used    uint32
		holders []api.Holder
		mode    uint32
		told    uint32
		now     []api.Holder
		then    uint32
	}{
		{0, nil, 1, 1, []api.Holder{{Client: ann, Mode: 1}}, 1},
		{0, nil, 2, 2, []api.Holder{{Client: ann, Mode: 2}}, 2},
		{1, nil, 1, 1, []api.Holder{{Client: ann, Mode: 1}}, 1},
		{1, []api.Holder{{Client: bob, Mode: 1}}, 1, 1, []api.Holder{{Client: ann, Mode: 1}, {Client: bob, Mode: 1}}, 1},
		{1, []api.Holder{{Client: ann, Mode: 1}}, 1, 1, []api.Holder{{Client: ann, Mode: 1}}, 1},
		{2, []api.Holder{{Client: ann, Mode: 2}}, 2, 2, []api.Holder{{Client: ann, Mode: 2}}, 2},
		// What the client holds is told, though it asked for less.
		{2, []api.Holder{{Client: ann, Mode: 2}}, 1, 2, []api.Holder{{Client: ann, Mode: 2}}, 2},
	} {
		b := startAt(t, opened(30, x.used, x.holders...), 2, 4)
		want := b.s.State()
		p, l := b.ask(ann, getOf(0, x.mode))
		b.same(p, l, answering(p, api.Op{File: 2, Epoch: 5, Size: 30, Mode: x.told}))
		want.Locks[0].Used, want.Locks[0].Holders = x.then, x.now
		want = seated(want, l[0])
		b.is(want)
		keeps(t, b.d, want)
	}
}

// P15.4: an OpGet that must wait for the data servers: the lock may be turned, and then they are told; it is committed with the seat.
func TestGetWaits(t *testing.T) {
	turned := api.Lock{File: 2, Epoch: 6, Cut: 30}
	for _, x := range []struct {
		lock api.Lock
		mode uint32
		now  api.Lock
		sent []api.Packet
	}{
		{api.Lock{File: 2, Epoch: 5, Cut: 30, Fenced: true, Used: 2}, 1, turned, []api.Packet{sending(1, 1, 1, 0, fenceOf(2, 6, 16)), sending(2, 1, 1, 0, fenceOf(2, 6, 14))}},
		{api.Lock{File: 2, Epoch: 5, Cut: 30, Fenced: true, Used: 2}, 2, turned, []api.Packet{sending(1, 1, 1, 0, fenceOf(2, 6, 16)), sending(2, 1, 1, 0, fenceOf(2, 6, 14))}},
		{api.Lock{File: 2, Epoch: 5, Cut: 30, Fenced: true, Used: 1}, 2, turned, []api.Packet{sending(1, 1, 1, 0, fenceOf(2, 6, 16)), sending(2, 1, 1, 0, fenceOf(2, 6, 14))}},
		// Ann's own hold is gone with the turn.
		{api.Lock{File: 2, Epoch: 5, Cut: 30, Fenced: true, Used: 1, Holders: []api.Holder{{Client: ann, Mode: 1}}}, 2, turned, []api.Packet{sending(1, 1, 1, 0, fenceOf(2, 6, 16)), sending(2, 1, 1, 0, fenceOf(2, 6, 14))}},
		{api.Lock{File: 2, Epoch: 5, Cut: 30}, 1, api.Lock{File: 2, Epoch: 5, Cut: 30}, []api.Packet{sending(1, 1, 1, 0, fenceOf(2, 5, 16)), sending(2, 1, 1, 0, fenceOf(2, 5, 14))}},
	} {
		s := opened(31, 0)
		s.Locks[0] = x.lock
		b := startAt(t, s, 2, 4)
		want := b.s.State()
		b.fails(ann, getOf(0, x.mode), api.ErrDelay, x.sent...)
		want.Locks[0] = x.now
		want = seated(want, failing(asking(ann, 1, 5, getOf(0, 0)), api.ErrDelay))
		b.is(want)
		keeps(t, b.d, want)
		b.replies(1, "")
		b.is(want)
		b.replies(2, "")
		// It is settled with the file's size.
		want.Locks[0].Fenced, want.Locks[0].Cut = true, 31
		b.is(want)
		keeps(t, b.d, want)
		b.tells(ann, getOf(0, x.mode), api.Op{File: 2, Epoch: x.now.Epoch, Size: 31, Mode: x.mode})
	}
}

// P15.4: an OpGet where others hold the file: they are asked to give it back, behind the answer, and nothing of the lock changes.
func TestGetConflict(t *testing.T) {
	for _, x := range []struct {
		used    uint32
		holders []api.Holder
		mode    uint32
		calls   []api.Packet
	}{
		{2, []api.Holder{{Client: bob, Mode: 2}}, 1, []api.Packet{calling(bob, 2, 5)}},
		{2, []api.Holder{{Client: bob, Mode: 2}}, 2, []api.Packet{calling(bob, 2, 5)}},
		{1, []api.Holder{{Client: bob, Mode: 1}}, 2, []api.Packet{calling(bob, 2, 5)}},
		{1, []api.Holder{{Client: ann, Mode: 1}, {Client: bob, Mode: 1}, {Client: cat, Mode: 1}, {Client: dan, Mode: 1}}, 2, []api.Packet{calling(bob, 2, 5), calling(cat, 2, 5), calling(dan, 2, 5)}},
		// 0 is not called, and where only room is lacking, nobody is.
		{1, []api.Holder{{Client: 0, Mode: 1}, {Client: bob, Mode: 1}}, 2, []api.Packet{calling(bob, 2, 5)}},
		{2, []api.Holder{{Client: 0, Mode: 2}}, 1, nil},
		{1, []api.Holder{{Client: 0, Mode: 1}, {Client: bob, Mode: 1}, {Client: cat, Mode: 1}, {Client: dan, Mode: 1}}, 1, nil},
	} {
		b := startAt(t, opened(30, x.used, x.holders...), 2, 4)
		want := b.s.State()
		b.fails(ann, getOf(0, x.mode), api.ErrDelay, x.calls...)
		b.is(seated(want, failing(asking(ann, 1, 5, getOf(0, 0)), api.ErrDelay)))
		// The recall is under way, if anybody is asked for: it isn't begun again.
		b.fails(ann, getOf(0, x.mode), api.ErrDelay)
	}
}

// P15.4: OpGet's errors in their order, and those that put it off behind them.
func TestGetErrors(t *testing.T) {
	badMode := func(mode uint32) fault {
		return fault{"a mode that is none", api.ErrArg, func(x *scene) { x.o.Mode = mode }}
	}
	for _, mode := range []uint32{0, 3, 4, 5, top} {
		faulty(t, func() scene { return scene{s: opened(30, 0), o: getOf(0, 2)} },
			fault{"no fd", api.ErrFd, noFd},
			badMode(mode),
			fault{"read only", api.ErrMode, readOnly},
			fault{"a work", api.ErrDelay, workOfBob},
			fault{"bob is first", api.ErrDelay, func(x *scene) {
				x.s.Locks[0].Fenced = false
				x.ahead = func(b *bench) { b.ask(bob, getOf(0, 1)) }
			}},
		)
	}
	faulty(t, func() scene { return scene{s: opened(30, 0), o: getOf(0, 1)} },
		fault{"no fd", api.ErrFd, noFd}, fault{"write only", api.ErrMode, writeOnly}, fault{"a work", api.ErrDelay, workOfBob})
	for _, client := range []int{ann, bob} {
		b := startAt(t, opened(30, 0), 1, 4)
		b.fails(client, getOf(1, 1), api.ErrFd)
		b.fails(client, closeOf(1), api.ErrFd)
	}
}

// P15.4: OpSize: what 0 needs to hold it is granted, and the lock is shrunk and turned; the file has the size, be it less or more.
func TestSize(t *testing.T) {
	for _, x := range []struct {
		size, cut, to, cutTo uint32
		lengths              [2]uint32
	}{
		{30, 30, 13, 13, [2]uint32{8, 5}},
		{30, 30, 0, 0, [2]uint32{0, 0}},
		{30, 30, 30, 30, [2]uint32{16, 14}},
		{30, 30, 31, 30, [2]uint32{16, 14}},
		{30, 30, 1024, 30, [2]uint32{16, 14}},
		{30, 9, 10, 9, [2]uint32{5, 4}},
	} {
		s := opened(x.size, 0)
		s.Locks[0].Cut = x.cut
		b := startAt(t, s, 2, 4)
		want := b.s.State()
		b.does(ann, sizeTo(0, x.to), sending(1, 1, 1, 0, fenceOf(2, 6, x.lengths[0])), sending(2, 1, 1, 0, fenceOf(2, 6, x.lengths[1])))
		want.Tree[1].Size = x.to
		want.Locks[0] = api.Lock{File: 2, Epoch: 6, Cut: x.cutTo}
		want = seated(want, answering(asking(ann, 1, 5, sizeTo(0, 0)), api.Op{}))
		b.is(want)
		keeps(t, b.d, want)
		b.quiet()
		b.locked(api.Lock{File: 2, Epoch: 6, Fenced: true, Cut: x.to})
	}
}

// P15.4: OpSize's errors in their order; where others hold the file, ann too, they are asked to give it back, and where the data servers must know the epoch first, it waits.
func TestSizeErrors(t *testing.T) {
	for _, size := range []uint32{1025, top} {
		faulty(t, func() scene { return scene{s: opened(30, 0), o: sizeTo(0, 10)} },
			fault{"no fd", api.ErrFd, noFd},
			fault{"read only", api.ErrMode, readOnly},
			fault{"too big", api.ErrBig, func(x *scene) { x.o.Size = size }},
			fault{"a work", api.ErrDelay, workOfBob},
			fault{"bob is first", api.ErrDelay, func(x *scene) {
				x.s.Locks[0].Fenced = false
				x.ahead = func(b *bench) { b.ask(bob, getOf(0, 1)) }
			}},
		)
	}
	b := startAt(t, opened(30, 1, api.Holder{Client: ann, Mode: 1}, api.Holder{Client: cat, Mode: 1}), 1, 4)
	was := b.s.State()
	b.fails(ann, sizeTo(0, 10), api.ErrDelay, calling(ann, 2, 5), calling(cat, 2, 5))
	b.is(seated(was, failing(asking(ann, 1, 5, sizeTo(0, 0)), api.ErrDelay)))
	b.does(ann, returnOf(2, 5))
	b.fails(ann, sizeTo(0, 10), api.ErrDelay)
	b.does(cat, returnOf(2, 5))
	b.fails(ann, sizeTo(0, 10), api.ErrDelay, sending(1, 1, 1, 0, fenceOf(2, 6, 30)))
	b.locked(api.Lock{File: 2, Epoch: 6, Cut: 30})
	b.fails(ann, sizeTo(0, 10), api.ErrDelay)
	b.replies(1, "")
	b.does(ann, sizeTo(0, 10), sending(1, 1, 2, 0, fenceOf(2, 7, 10)))
	b.locked(api.Lock{File: 2, Epoch: 7, Cut: 10})
	b.sized(2, 10)
	b.fails(ann, sizeTo(0, 1024), api.ErrDelay)
	b.replies(1, "")
	b.does(ann, sizeTo(0, 1024), sending(1, 1, 3, 0, fenceOf(2, 8, 10)))
	b.sized(2, 1024)
}

// P15.4: OpReturn takes away the hold of its client in its epoch, and nothing else; it has no error.
func TestReturn(t *testing.T) {
	two := []api.Holder{{Client: ann, Mode: 1}, {Client: bob, Mode: 1}}
	for _, x := range []struct {
		client      int
		file, epoch uint32
		now         []api.Holder
	}{
		{ann, 2, 5, two[1:]}, {bob, 2, 5, two[:1]}, {cat, 2, 5, two},
		{ann, 2, 4, two}, {ann, 2, 6, two}, {ann, 2, 0, two}, {ann, 2, top, two},
		{ann, 3, 5, two}, {ann, 1, 5, two}, {ann, 0, 5, two}, {ann, top, 5, two},
	} {
		b := startAt(t, opened(30, 1, two...), 2, 4)
		want := b.s.State()
		b.does(x.client, returnOf(x.file, x.epoch))
		want.Locks[0].Holders = x.now
		want = seated(want, answering(asking(x.client, 1, 5, returnOf(0, 0)), api.Op{}))
		b.is(want)
		keeps(t, b.d, want)
	}
	// A lock that is gone is one as well.
	s := opened(30, 0)
	s.Opens, s.Tree, s.Locks = nil, s.Tree[:1], []api.Lock{{File: 2, Epoch: 5, Gone: true}}
	b := startAt(t, s, 1, 4)
	b.does(ann, returnOf(2, 5), sending(1, 1, 1, 0, freeOf(2)))
}

// P15.4: OpGrew: the file's Size and the lock's Cut become what is greater, each for itself; the answer has the Size.
func TestGrew(t *testing.T) {
	for _, x := range []struct{ size, cut, to, sizeThen, cutThen uint32 }{
		{30, 30, 31, 31, 31}, {30, 30, 30, 30, 30}, {30, 30, 29, 30, 30}, {30, 30, 0, 30, 30}, {30, 30, 1024, 1024, 1024},
		{30, 10, 20, 30, 20}, {30, 10, 40, 40, 40}, {10, 30, 20, 20, 30}, {10, 30, 40, 40, 40}, {1024, 1024, 1024, 1024, 1024},
	} {
		s := opened(x.size, 2, api.Holder{Client: ann, Mode: 2})
		s.Locks[0].Cut = x.cut
		b := startAt(t, s, 1, 4)
		want := b.s.State()
		b.tells(ann, grewOf(2, 5, x.to), api.Op{Size: x.sizeThen})
		want.Tree[1].Size, want.Locks[0].Cut = x.sizeThen, x.cutThen
		want = seated(want, answering(asking(ann, 1, 5, grewOf(0, 0, 0)), api.Op{Size: x.sizeThen}))
		b.is(want)
		keeps(t, b.d, want)
	}
}

// P15.4: OpGrew's errors: ErrRevoked for a file or an epoch that is not held to write, then ErrBig.
func TestGrewErrors(t *testing.T) {
	good := func() scene {
		return scene{s: opened(30, 2, api.Holder{Client: ann, Mode: 2}), o: grewOf(2, 5, 40)}
	}
	holders := func(used uint32, l ...api.Holder) func(x *scene) {
		return func(x *scene) { x.s.Locks[0].Used, x.s.Locks[0].Holders = used, l }
	}
	for _, size := range []uint32{1025, top} {
		for _, revoked := range []func(x *scene){
			func(x *scene) { x.o.Epoch = 4 }, func(x *scene) { x.o.Epoch = 6 }, func(x *scene) { x.o.Epoch = 0 },
			func(x *scene) { x.o.File = 1 }, func(x *scene) { x.o.File = 3 }, func(x *scene) { x.o.File = 0 },
			holders(2), holders(2, api.Holder{Client: bob, Mode: 2}), holders(2, api.Holder{Client: ann, Mode: 1}),
			holders(1, api.Holder{Client: ann, Mode: 1}, api.Holder{Client: bob, Mode: 1}),
		} {
			faulty(t, good, fault{"revoked", api.ErrRevoked, revoked}, fault{"too big", api.ErrBig, func(x *scene) { x.o.Size = size }})
		}
	}
}

// P15.4: OpGive and OpTake: their errors in their order, at the edges; with the Len 0 they are answered at once, also while there is a work of the file.
func TestGiveTakeErrors(t *testing.T) {
	busy := fault{"a work", api.ErrDelay, workOfBob}
	for _, big := range []struct{ off, n uint32 }{{0, 65}, {0, top}, {1024, 1}, {1023, 2}, {1020, 5}, {961, 64}, {1025, 0}, {top, 0}, {top, 1}, {top - 63, 64}, {1, top}} {
		faulty(t, func() scene { return scene{s: opened(30, 0), o: giveOf(0, 1, 2)} },
			fault{"no fd", api.ErrFd, noFd}, fault{"write only", api.ErrMode, writeOnly},
			fault{"too big", api.ErrBig, func(x *scene) { x.o.Off, x.o.Len = big.off, big.n }}, busy)
		if big.n > 128 {
			continue
		}
		faulty(t, func() scene { return scene{s: opened(30, 0), o: takeOf(0, 1, "ab")} },
			fault{"no fd", api.ErrFd, noFd}, fault{"read only", api.ErrMode, readOnly},
			fault{"too big", api.ErrBig, func(x *scene) { x.o.Off, x.o.Data = big.off, mixed(0, int(big.n)) }}, busy)
	}
	for _, off := range []uint32{0, 30, 1023, 1024} {
		for _, work := range []bool{false, true} {
			for _, o := range []api.Op{giveOf(0, off, 0), takeOf(0, off, "")} {
				x := scene{s: opened(30, 0), o: o}
				if work {
					workOfBob(&x)
				}
				// What the other one has is not its own.
				if o.Code == api.OpGive {
					x.o.Data = "not asked for"
				} else {
					x.o.Len = 10
				}
				b, was, p, l := x.play(t)
				b.same(p, l, answering(p, api.Op{}))
				b.is(seated(was, answering(p, api.Op{})))
			}
		}
	}
}

// P15.4: an OpGive or OpTake that is put off changes neither queue nor recall.
func TestGiveIsNotQueued(t *testing.T) {
	x := scene{s: opened(30, 0), o: giveOf(0, 0, 4)}
	workOfBob(&x)
	b, _, p, l := x.play(t)
	b.same(p, l, failing(p, api.ErrDelay))
	b.same("the end of bob's work", b.reply(1, api.OK, "x"), answering(asking(bob, 1, 5, giveOf(0, 0, 0)), api.Op{Len: 1, Data: "x"}))
	b.seqs[bob] = 5
	// Cat is first, though ann came first.
	b.fails(cat, getOf(0, 1), api.ErrDelay, sending(1, 1, 2, 0, fenceOf(2, 6, 30)))
	b.replies(1, "")
	b.tells(cat, getOf(0, 1), api.Op{File: 2, Epoch: 6, Size: 30, Mode: 1})
}

// P15.4: the work that an OpGive or an OpTake becomes, and that alone is committed; works stand in the order of their files.
func TestWorkIsAdded(t *testing.T) {
	// What the packet has beside it is not asked.
	for _, o := range []api.Op{{Code: 23, Off: 3, Len: 2, Data: "else"}, {Code: 24, Off: 3, Len: 60, Data: "ab"}} {
		o.File, o.Epoch, o.Size, o.Mode, o.Deny, o.Path, o.Other = 9, 9, 9, 9, 9, "/b", "/c"
		b := startAt(t, opened(30, 2, api.Holder{Client: dan, Mode: 2}), 1, 4)
		want := b.s.State()
		b.works(ann, o, calling(dan, 2, 5))
		want.Works = []api.Work{{File: 2, Client: ann, Life: 1, Seq: 5, Code: o.Code, Off: 3, Len: 2, Data: map[int]string{24: "ab"}[o.Code]}}
		b.is(want)
		keeps(t, b.d, want)
	}
	s := opened(30, 2, api.Holder{Client: dan, Mode: 2})
	s.Tree = append(s.Tree, api.Inode{Id: 4, Parent: 1, Name: "c", Size: 9}, api.Inode{Id: 7, Parent: 1, Name: "z"})
	s.Locks = append(s.Locks, api.Lock{File: 4, Epoch: 1, Fenced: true}, api.Lock{File: 7, Epoch: 1, Fenced: true})
	s.Next = 8
	for i, file := range []uint32{7, 4} {
		s.Opens = append(s.Opens, api.Open{Client: uint32(ann + i), Handle: 7, File: file, Access: 3})
	}
	slices.SortFunc(s.Opens, func(a, b api.Open) int {
		return int(a.Client)*10 + int(a.Handle) - int(b.Client)*10 - int(b.Handle)
	})
	for i := range s.Locks {
		s.Locks[i].Used, s.Locks[i].Holders = 2, []api.Holder{{Client: dan, Mode: 2}}
	}
	b := startAt(t, s, 1, 4)
	want := b.s.State()
	full := mixed(7, 64)
	b.works(ann, takeOf(7, 960, full), calling(dan, 7, 1))
	want.Works = []api.Work{{File: 7, Client: ann, Life: 1, Seq: 5, Code: 24, Off: 960, Len: 64, Data: full}}
	b.is(want)
	b.works(cat, giveOf(0, 1023, 1), calling(dan, 2, 5))
	b.works(bob, giveOf(7, 1, 64), calling(dan, 4, 1))
	want.Works = []api.Work{
		{File: 2, Client: cat, Life: 1, Seq: 5, Code: 23, Off: 1023, Len: 1},
		{File: 4, Client: bob, Life: 1, Seq: 5, Code: 23, Off: 1, Len: 64},
		want.Works[0],
	}
	b.is(want)
	keeps(t, b.d, want)
}

// The chapter's example: with two data servers, an OpOpen of /a with create is answered with File 2, and a fence of epoch 1 is sent to both; an OpGet is answered with ErrDelay; after both servers have answered, it is granted with epoch 1.
func TestExample(t *testing.T) {
	b := startNew(t, 2, 4)
	b.tells(ann, openOf("/a", 0, 7, 0), api.Op{File: 2}, sending(1, 1, 1, 0, fenceOf(2, 1, 0)), sending(2, 1, 1, 0, fenceOf(2, 1, 0)))
	b.fails(ann, getOf(0, 2), api.ErrDelay)
	b.reboots(1, 6, sending(1, 1, 1, 6, fenceOf(2, 1, 0)))
	b.reboots(2, 9, sending(2, 1, 1, 9, fenceOf(2, 1, 0)))
	b.fails(ann, getOf(0, 2), api.ErrDelay)
	b.replies(2, "")
	b.fails(ann, getOf(0, 2), api.ErrDelay)
	b.locked(api.Lock{File: 2, Epoch: 1})
	b.replies(1, "")
	b.locked(api.Lock{File: 2, Epoch: 1, Fenced: true})
	b.tells(ann, getOf(0, 2), api.Op{File: 2, Epoch: 1, Mode: 2})
}

// P15.4, P15.7: two clients conflict: the recall, the return and the grant; then the other way round.
func TestTwoClients(t *testing.T) {
	b := startNew(t, 2, 4)
	b.made(ann, "/a", 0, 3)
	b.ask(bob, openOf("/a", 0, 3, 0))
	b.tells(ann, getOf(0, 2), api.Op{File: 2, Epoch: 1, Mode: 2})
	b.tells(ann, grewOf(2, 1, 21), api.Op{Size: 21})
	b.fails(bob, getOf(0, 1), api.ErrDelay, calling(ann, 2, 1))
	b.fails(bob, getOf(0, 1), api.ErrDelay)
	b.does(ann, returnOf(2, 1))
	b.fails(bob, getOf(0, 1), api.ErrDelay, sending(1, 1, 2, 0, fenceOf(2, 2, 12)), sending(2, 1, 2, 0, fenceOf(2, 2, 9)))
	b.fails(ann, getOf(0, 2), api.ErrDelay)
	b.quiet()
	// Bob is first.
	b.fails(ann, getOf(0, 1), api.ErrDelay)
	b.tells(bob, getOf(0, 1), api.Op{File: 2, Epoch: 2, Size: 21, Mode: 1})
	b.tells(ann, getOf(0, 1), api.Op{File: 2, Epoch: 2, Size: 21, Mode: 1})
	b.locked(api.Lock{File: 2, Epoch: 2, Fenced: true, Used: 1, Cut: 21, Holders: []api.Holder{{Client: ann, Mode: 1}, {Client: bob, Mode: 1}}})
	b.fails(ann, getOf(0, 2), api.ErrDelay, calling(bob, 2, 2))
	b.does(bob, returnOf(2, 2))
	b.fails(ann, getOf(0, 2), api.ErrDelay, sending(1, 1, 3, 0, fenceOf(2, 3, 12)), sending(2, 1, 3, 0, fenceOf(2, 3, 9)))
	b.quiet()
	b.tells(ann, getOf(0, 2), api.Op{File: 2, Epoch: 3, Size: 21, Mode: 2})
	// A hold of an elder epoch is nothing.
	b.does(bob, returnOf(2, 2))
	b.fails(bob, grewOf(2, 2, 50), api.ErrRevoked)
	b.tells(ann, grewOf(2, 3, 50), api.Op{Size: 50})
}

// P15.4: at the last epoch a lock is not turned: what the layer below says is what is done.
func TestLastEpoch(t *testing.T) {
	s := opened(30, 0)
	s.Locks[0].Epoch = top
	b := startAt(t, s, 1, 4)
	b.does(ann, sizeTo(0, 10))
	b.locked(api.Lock{File: 2, Epoch: top, Fenced: true, Used: 2, Cut: 10, Holders: []api.Holder{{Client: 0, Mode: 2}}})
	b.sized(2, 10)
	b.does(ann, sizeTo(0, 20))
	b.sized(2, 20)
	s = opened(30, 2, api.Holder{Client: bob, Mode: 2})
	s.Locks[0].Epoch = top
	b = startAt(t, s, 1, 4)
	b.fails(ann, getOf(0, 1), api.ErrDelay, calling(bob, 2, top))
	b.does(bob, returnOf(2, top))
	b.fails(ann, getOf(0, 1), api.ErrDelay)
	b.locked(api.Lock{File: 2, Epoch: top, Fenced: true, Used: 2, Cut: 30})
	// The lease is over all the same: nobody is called any more.
	b = startAt(t, s, 1, 4)
	b.fails(ann, getOf(0, 1), api.ErrDelay, calling(bob, 2, top))
	for age := range 12 {
		if age == 0 || age == 2 || age == 4 {
			b.ticks(calling(bob, 2, top))
		} else {
			b.ticks()
		}
	}
	b.locked(s.Locks[0])
	b.fails(ann, getOf(0, 1), api.ErrDelay, calling(bob, 2, top))
}
