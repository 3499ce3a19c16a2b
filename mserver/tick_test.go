package mserver

import (
	"slices"
	"testing"

	"lamella/api"
)

// P15.7: what is outstanding is sent again, by number, at the ticks 1, 3, 7, 15, 23 and so on of each request, as it was; what is answered is not.
func TestTickSendsAgain(t *testing.T) {
	s := filed(5, 30)
	s.Locks[0].Fenced = false
	b := startAt(t, s, 3, 16)
	var out []api.Packet
	for server := 1; server <= 3; server++ {
		out = append(out, sending(server, 1, 1, 0, fenceOf(2, 5, []uint32{14, 0, 16}[server-1])))
	}
	// File 2 begins on server 3.
	b.ticks(out...)
	due := []int{1, 3, 7, 15, 23, 31}
	for tick := 1; tick < 32; tick++ {
		var want []api.Packet
		if slices.Contains(due, tick) {
			want = out
		}
		b.ticks(want...)
	}
	b.replies(2, "")
	for range 8 {
		if l := b.tick(); len(l) != 0 {
			b.same("a tick", l, out[0], out[2])
		}
	}
	// A reboot's request begins anew.
	b.reboots(1, 4, sending(1, 1, 1, 4, fenceOf(2, 5, 14)))
	b.replies(3, "")
	for tick := 1; tick < 24; tick++ {
		var want []api.Packet
		if slices.Contains(due, tick) {
			want = []api.Packet{sending(1, 1, 1, 4, fenceOf(2, 5, 14))}
		}
		b.ticks(want...)
	}
	b.replies(1, "")
	for range 10 {
		b.ticks()
	}
}

// P15.7: what is sent again is what was outstanding, though it would be another request by now.
func TestTickSendsAgainTheSame(t *testing.T) {
	s := filed(5, 30)
	s.Locks[0].Fenced = false
	b := startAt(t, s, 1, 64)
	b.ticks(sending(1, 1, 1, 0, fenceOf(2, 5, 30)))
	b.does(ann, removeOf("/a"))
	b.ticks(sending(1, 1, 1, 0, fenceOf(2, 5, 30)))
	b.replies(1, "", sending(1, 1, 2, 0, freeOf(2)))
	b.ticks(sending(1, 1, 2, 0, freeOf(2)))
}

// P15.7: a recall: those who hold the file are called when it begins and at each odd age, and at the age of the lease their holds are revoked; then the data servers are told the new epoch, in the same tick, and the recall is over.
func TestRecall(t *testing.T) {
	for _, x := range []struct {
		used    uint32
		holders []api.Holder
		ask     api.Op
		others  []int
	}{
		{2, []api.Holder{{Client: bob, Mode: 2}}, getOf(0, 1), []int{bob}},
		{2, []api.Holder{{Client: bob, Mode: 2}}, getOf(0, 2), []int{bob}},
		{1, []api.Holder{{Client: ann, Mode: 1}, {Client: bob, Mode: 1}, {Client: dan, Mode: 1}}, getOf(0, 2), []int{bob, dan}},
		{1, []api.Holder{{Client: ann, Mode: 1}, {Client: bob, Mode: 1}, {Client: dan, Mode: 1}}, sizeTo(0, 5), []int{ann, bob, dan}},
		{1, []api.Holder{{Client: ann, Mode: 1}, {Client: dan, Mode: 1}}, giveOf(0, 0, 1), []int{ann, dan}},
		{1, []api.Holder{{Client: 0, Mode: 1}, {Client: dan, Mode: 1}}, getOf(0, 2), []int{dan}},
		{1, []api.Holder{{Client: 0, Mode: 1}, {Client: bob, Mode: 1}, {Client: dan, Mode: 1}}, getOf(0, 2), []int{bob, dan}},
	} {
		b := startAt(t, opened(30, x.used, x.holders...), 2, 64)
		var calls []api.Packet
		for _, client := range x.others {
			calls = append(calls, calling(client, 2, 5))
		}
		p, l := b.ask(ann, x.ask)
		if x.ask.Code != api.OpGive {
			b.same(p, l[:1], failing(p, api.ErrDelay))
			l = l[1:]
		}
		b.same(p, l, calls...)
		held := b.lock(2)
		for age := 1; age < 6; age++ {
			if age%2 == 1 {
				b.ticks(calls...)
			} else {
				b.ticks()
			}
			b.locked(held)
		}
		fences := []api.Packet{sending(1, 1, 1, 0, fenceOf(2, 6, 30)), sending(2, 1, 1, 0, fenceOf(2, 6, 0))}
		b.ticks(fences...)
		revoked := api.Lock{File: 2, Epoch: 6, Cut: 30}
		b.locked(revoked)
		want := b.s.State()
		keeps(t, b.d, want)
		b.ticks(fences...)
		b.ticks()
		b.locked(revoked)
	}
}

// P15.7: a hold that is given back at any age of its recall is called no more; when the last one is, nobody is, and nothing is revoked.
func TestRecallAnswered(t *testing.T) {
	for age := range 6 {
		b := startAt(t, opened(30, 1, api.Holder{Client: bob, Mode: 1}, api.Holder{Client: cat, Mode: 1}), 1, 64)
		b.fails(ann, getOf(0, 2), api.ErrDelay, calling(bob, 2, 5), calling(cat, 2, 5))
		for tick := 1; tick <= age; tick++ {
			b.tick()
		}
		b.does(bob, returnOf(2, 5))
		for tick := age + 1; tick < 6; tick++ {
			if tick%2 == 1 {
				b.ticks(calling(cat, 2, 5))
			} else {
				b.ticks()
			}
		}
		b.ticks(sending(1, 1, 1, 0, fenceOf(2, 6, 30)))
		b = startAt(t, opened(30, 1, api.Holder{Client: bob, Mode: 1}, api.Holder{Client: cat, Mode: 1}), 1, 64)
		b.fails(ann, getOf(0, 2), api.ErrDelay, calling(bob, 2, 5), calling(cat, 2, 5))
		for tick := 1; tick <= age; tick++ {
			b.tick()
		}
		b.does(bob, returnOf(2, 5))
		b.does(cat, closeOf(0))
		for range 10 {
			b.ticks()
		}
		b.locked(api.Lock{File: 2, Epoch: 5, Fenced: true, Used: 1, Cut: 30})
	}
}

// P15.7: where only 0 is in the way, nobody is called, and its hold is not revoked, however long it takes; where it is the only one that is left, too.
func TestRecallOfZero(t *testing.T) {
	b := startAt(t, opened(30, 2, api.Holder{Client: 0, Mode: 2}), 1, 64)
	b.fails(ann, getOf(0, 1), api.ErrDelay)
	held := b.lock(2)
	for range 20 {
		b.ticks()
		b.locked(held)
	}
	b = startAt(t, opened(30, 1, api.Holder{Client: 0, Mode: 1}, api.Holder{Client: bob, Mode: 1}), 1, 64)
	b.fails(ann, getOf(0, 2), api.ErrDelay, calling(bob, 2, 5))
	for range 4 {
		b.tick()
	}
	b.does(bob, returnOf(2, 5))
	held = b.lock(2)
	for range 20 {
		b.ticks()
		b.locked(held)
	}
}

// P15.7: a recall goes on with its age when another request meets the same holders, and also when the one who asked has gone.
func TestRecallGoesOn(t *testing.T) {
	b := startAt(t, opened(30, 2, api.Holder{Client: bob, Mode: 2}), 1, 64)
	b.fails(ann, getOf(0, 1), api.ErrDelay, calling(bob, 2, 5))
	b.ticks(calling(bob, 2, 5))
	b.fails(ann, getOf(0, 2), api.ErrDelay)
	b.ticks()
	b.fails(ann, sizeTo(0, 1), api.ErrDelay)
	b.ticks(calling(bob, 2, 5))
	b.does(ann, closeOf(0))
	b.ticks()
	b.works(cat, takeOf(0, 0, "x"))
	b.ticks(calling(bob, 2, 5))
	b.ticks(sending(1, 1, 1, 0, fenceOf(2, 6, 30)))
}

// P15.4: a recall whose others have all given the file back gives way to another one, which begins with its own calls and with the age 0.
func TestRecallGivesWay(t *testing.T) {
	b := startAt(t, opened(30, 1, api.Holder{Client: ann, Mode: 1}, api.Holder{Client: bob, Mode: 1}), 1, 64)
	b.fails(ann, getOf(0, 2), api.ErrDelay, calling(bob, 2, 5))
	b.ticks(calling(bob, 2, 5))
	b.ticks()
	b.does(bob, returnOf(2, 5))
	// Ann's own hold is in the way of 0.
	b.fails(ann, sizeTo(0, 3), api.ErrDelay, calling(ann, 2, 5))
	b.ticks(calling(ann, 2, 5))
	b.ticks()
	b.ticks(calling(ann, 2, 5))
	b.ticks()
	b.ticks(calling(ann, 2, 5))
	b.locked(api.Lock{File: 2, Epoch: 5, Fenced: true, Used: 1, Cut: 30, Holders: []api.Holder{{Client: ann, Mode: 1}}})
	b.ticks(sending(1, 1, 1, 0, fenceOf(2, 6, 30)))
	// So it is for a work.
	b = startAt(t, opened(30, 1, api.Holder{Client: ann, Mode: 1}, api.Holder{Client: bob, Mode: 1}), 1, 64)
	b.fails(ann, getOf(0, 2), api.ErrDelay, calling(bob, 2, 5))
	b.ticks(calling(bob, 2, 5))
	b.does(bob, returnOf(2, 5))
	b.works(cat, takeOf(0, 0, "x"), calling(ann, 2, 5))
	b.ticks(calling(ann, 2, 5))
}

// P15.4: a recall ends when an OpGet for the file is answered without an error: those who were called aren't called again, nor are they revoked.
func TestRecallEndsByGrant(t *testing.T) {
	b := startAt(t, opened(30, 1, api.Holder{Client: bob, Mode: 1}, api.Holder{Client: cat, Mode: 1}), 1, 64)
	b.fails(ann, getOf(0, 2), api.ErrDelay, calling(bob, 2, 5), calling(cat, 2, 5))
	b.ticks(calling(bob, 2, 5), calling(cat, 2, 5))
	b.tells(ann, getOf(0, 1), api.Op{File: 2, Epoch: 5, Size: 30, Mode: 1})
	held := b.lock(2)
	for range 8 {
		b.ticks()
	}
	b.locked(held)
	// The next one begins anew.
	b.fails(ann, getOf(0, 2), api.ErrDelay, calling(bob, 2, 5), calling(cat, 2, 5))
	for range 5 {
		b.tick()
		b.locked(held)
	}
	b.ticks(sending(1, 1, 1, 0, fenceOf(2, 6, 30)))
}

// P15.7: the recall of a file that is gone ends with it.
func TestRecallOfGone(t *testing.T) {
	s := opened(30, 2, api.Holder{Client: bob, Mode: 2})
	s.Opens = s.Opens[:1]
	b := startAt(t, s, 1, 64)
	b.fails(ann, getOf(0, 1), api.ErrDelay, calling(bob, 2, 5))
	b.does(ann, closeOf(0))
	b.does(ann, removeOf("/a"), sending(1, 1, 1, 0, freeOf(2)))
	b.ticks(sending(1, 1, 1, 0, freeOf(2)))
	b.replies(1, "")
	for range 8 {
		b.ticks()
	}
	if l := b.s.State().Locks; len(l) != 0 {
		t.Errorf("the locks are %+v", l)
	}
}

// P15.7: several recalls go on by File, behind what is sent again and ahead of what is due.
func TestTickOrder(t *testing.T) {
	s := opened(30, 2, api.Holder{Client: dan, Mode: 2})
	for i, name := range []string{"b", "c", "d"} {
		file := uint32(3 + i)
		s.Tree = append(s.Tree, api.Inode{Id: file, Parent: 1, Name: name})
		s.Locks = append(s.Locks, api.Lock{File: file, Epoch: file, Fenced: true, Used: 2, Holders: []api.Holder{{Client: dan, Mode: 2}}})
		s.Opens = append(s.Opens, api.Open{Client: uint32(bob + i), Handle: 7, File: file, Access: 3})
	}
	slices.SortFunc(s.Opens, func(a, b api.Open) int {
		return int(a.Client)*10 + int(a.Handle) - int(b.Client)*10 - int(b.Handle)
	})
	s.Tree = append(s.Tree, api.Inode{Id: 7, Parent: 1, Name: "z"})
	s.Locks = append(s.Locks, api.Lock{File: 7, Epoch: 9})
	s.Next = 9
	b := startAt(t, s, 2, 64)
	fences := []api.Packet{sending(1, 1, 1, 0, fenceOf(7, 9, 0)), sending(2, 1, 1, 0, fenceOf(7, 9, 0))}
	b.ticks(fences...)
	b.fails(cat, getOf(7, 1), api.ErrDelay, calling(dan, 4, 4))
	b.fails(ann, getOf(0, 1), api.ErrDelay, calling(dan, 2, 5))
	b.fails(bob, getOf(7, 1), api.ErrDelay, calling(dan, 3, 3))
	b.ticks(fences[0], fences[1], calling(dan, 2, 5), calling(dan, 3, 3), calling(dan, 4, 4))
	b.replies(1, "")
	b.ticks()
	b.ticks(fences[1], calling(dan, 2, 5), calling(dan, 3, 3), calling(dan, 4, 4))
	b.ticks()
	// The fourth recall is younger.
	b.does(dan, returnOf(3, 3))
	b.ticks(calling(dan, 2, 5), calling(dan, 4, 4))
	b.ticks(sending(1, 1, 2, 0, fenceOf(2, 6, 30)))
	b.locked(api.Lock{File: 4, Epoch: 5})
	b.locked(api.Lock{File: 3, Epoch: 3, Fenced: true, Used: 2})
	b.locked(api.Lock{File: 5, Epoch: 5, Fenced: true, Used: 2, Holders: []api.Holder{{Client: dan, Mode: 2}}})
}

// waiting is a server at which these clients, one behind the other, wait for /a, all of whose holds could be granted as soon as the data server knows the epoch; it does now.
func waiting(t *testing.T, clients ...int) *bench {
	t.Helper()
	s := opened(30, 0)
	s.Locks[0].Fenced = false
	b := startAt(t, s, 1, 64)
	b.ticks(sending(1, 1, 1, 0, fenceOf(2, 5, 30)))
	for _, client := range clients {
		b.fails(client, getOf(0, 1), api.ErrDelay)
	}
	b.replies(1, "")
	return b
}

// granted fails unless a client is granted to read /a.
func (b *bench) granted(client int) {
	b.t.Helper()
	b.tells(client, getOf(0, 1), api.Op{File: 2, Epoch: 5, Size: 30, Mode: 1})
}

// P15.4: who waits is served in the order in which they came: another one is behind the first, whoever it is. Who is served waits no more, be it the first or not.
func TestQueue(t *testing.T) {
	b := waiting(t, bob, cat)
	b.fails(ann, getOf(0, 1), api.ErrDelay)
	b.fails(cat, getOf(0, 1), api.ErrDelay)
	b.granted(bob)
	b.fails(ann, getOf(0, 1), api.ErrDelay)
	// Bob has it already, and is behind all the same.
	b.fails(bob, getOf(0, 1), api.ErrDelay)
	b.granted(cat)
	b.fails(bob, getOf(0, 1), api.ErrDelay)
	b.fails(dan, sizeTo(0, 7), api.ErrDelay)
	b.granted(ann)
	b.granted(bob)
	b.fails(ann, getOf(0, 1), api.ErrDelay)
	// An OpSize's client waits as any other, and is served as any other.
	b.fails(dan, sizeTo(0, 7), api.ErrDelay, calling(ann, 2, 5), calling(bob, 2, 5), calling(cat, 2, 5))
	for _, client := range []int{ann, bob, cat} {
		b.does(client, returnOf(2, 5))
	}
	b.fails(dan, sizeTo(0, 7), api.ErrDelay, sending(1, 1, 2, 0, fenceOf(2, 6, 30)))
	b.replies(1, "")
	b.does(dan, sizeTo(0, 7), sending(1, 1, 3, 0, fenceOf(2, 7, 7)))
	b.replies(1, "")
	b.tells(ann, getOf(0, 1), api.Op{File: 2, Epoch: 7, Size: 7, Mode: 1})
}

// P15.4: a client that is delayed again keeps its position, and is young again.
func TestQueuePosition(t *testing.T) {
	for rounds := range 4 {
		s := opened(30, 0)
		s.Locks[0].Fenced = false
		b := startAt(t, s, 1, 64)
		b.tick()
		for _, client := range []int{bob, cat, dan} {
			b.fails(client, getOf(0, 1), api.ErrDelay)
		}
		for range rounds {
			for range 3 {
				b.tick()
			}
			for _, client := range []int{dan, cat, bob} {
				b.fails(client, getOf(0, 1), api.ErrDelay)
			}
		}
		for range 3 {
			b.tick()
		}
		b.replies(1, "")
		b.fails(dan, getOf(0, 1), api.ErrDelay)
		b.fails(cat, getOf(0, 1), api.ErrDelay)
		b.granted(bob)
		b.fails(dan, getOf(0, 1), api.ErrDelay)
		b.granted(cat)
		b.granted(dan)
	}
}

// P15.4, P15.7: a client keeps its place for QueueAge ticks since it asked last, and one tick more is too many.
func TestQueueAge(t *testing.T) {
	for ticks := range 7 {
		b := waiting(t, bob)
		for range ticks {
			b.ticks()
		}
		if ticks <= 3 {
			b.fails(ann, getOf(0, 1), api.ErrDelay)
		} else {
			b.granted(ann)
		}
	}
	// The second one's age counts for itself.
	for ticks := range 7 {
		b := waiting(t, bob)
		b.ticks()
		b.ticks()
		b.fails(cat, getOf(0, 1), api.ErrDelay)
		for range ticks {
			b.ticks()
		}
		switch {
		case ticks <= 1:
			b.fails(cat, getOf(0, 1), api.ErrDelay)
		case ticks <= 3:
			b.fails(ann, getOf(0, 1), api.ErrDelay)
			b.granted(cat)
		default:
			b.granted(ann)
		}
	}
}

// P15.4: a client of which a new life is heard leaves all queues, whatever it asks; its elder life's requests, and those that do nothing, change none.
func TestQueueNewLife(t *testing.T) {
	for _, o := range []api.Op{statOf("/"), statOf("/none"), getOf(0, 1)} {
		b := waiting(t, bob, cat)
		b.same("an early request", b.handle(asking(bob, 2, 2, o)))
		b.same("an old request", b.handle(asking(bob, 1, 4, o)))
		b.fails(cat, getOf(0, 1), api.ErrDelay)
		b.reborn(bob)
		b.ask(bob, o)
		b.granted(cat)
	}
	// Behind the first one it is no other.
	b := waiting(t, bob, cat, dan)
	b.reborn(cat)
	b.tells(cat, openOf("/a", 0, 1, 0), api.Op{File: 2, Size: 30})
	b.fails(dan, getOf(0, 1), api.ErrDelay)
	b.fails(cat, getOf(0, 1), api.ErrDelay)
	b.granted(bob)
	b.fails(cat, getOf(0, 1), api.ErrDelay)
	b.granted(dan)
	b.granted(cat)
}

// P15.4: other requests, and other errors, leave a client where it is; each file has a queue of its own.
func TestQueueStays(t *testing.T) {
	s := opened(30, 0)
	s.Locks[0].Fenced = false
	s.Tree, s.Next = append(s.Tree, api.Inode{Id: 3, Parent: 1, Name: "b"}), 4
	s.Locks = append(s.Locks, api.Lock{File: 3, Epoch: 5, Fenced: true})
	s.Opens = slices.Insert(s.Opens, 2, api.Open{Client: bob, Handle: 1, File: 3, Access: 3})
	s.Opens = slices.Insert(s.Opens, 2, api.Open{Client: bob, Handle: 2, File: 2, Access: 2})[:6]
	slices.SortFunc(s.Opens, func(a, b api.Open) int {
		return int(a.Client)*10 + int(a.Handle) - int(b.Client)*10 - int(b.Handle)
	})
	b := startAt(t, s, 1, 64)
	b.ticks(sending(1, 1, 1, 0, fenceOf(2, 5, 30)))
	b.fails(bob, getOf(0, 1), api.ErrDelay)
	b.replies(1, "")
	for _, x := range []struct {
		o    api.Op
		want api.Op
	}{
		{statOf("/"), api.Op{File: 1, Mode: 1}}, {getOf(1, 2), api.Op{File: 3, Epoch: 5, Mode: 2}}, {returnOf(2, 5), api.Op{}},
		{getOf(2, 1), api.Op{Err: api.ErrMode}}, {getOf(0, 0), api.Op{Err: api.ErrArg}}, {getOf(9, 1), api.Op{Err: api.ErrFd}},
		{sizeTo(0, 1025), api.Op{Err: api.ErrBig}}, {giveOf(0, 0, 0), api.Op{}}, {closeOf(2), api.Op{}},
	} {
		b.tells(bob, x.o, x.want)
		b.fails(cat, getOf(0, 1), api.ErrDelay)
	}
	b.granted(bob)
	b.granted(cat)
}

// P15.7: queues and recalls are lost when the server begins anew.
func TestRestartForgets(t *testing.T) {
	b := waiting(t, bob)
	b.restart()
	b.granted(ann)
	b = startAt(t, opened(30, 2, api.Holder{Client: bob, Mode: 2}), 1, 64)
	b.fails(ann, getOf(0, 1), api.ErrDelay, calling(bob, 2, 5))
	b.ticks(calling(bob, 2, 5))
	b.restart()
	for range 8 {
		b.ticks()
	}
	b.fails(ann, getOf(0, 1), api.ErrDelay, calling(bob, 2, 5))
	for range 5 {
		b.tick()
	}
	b.ticks(sending(1, 2, 1, 0, fenceOf(2, 6, 30)))
}
