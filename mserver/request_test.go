package mserver

import (
	"slices"
	"testing"

	"lamella/api"
)

// seated is a state in which a request's answer is the client's seat.
func seated(s api.State, answer api.Packet) api.State {
	s = clone(s)
	h := api.Heard{Client: uint32(answer.To), Reply: answer}
	s.Seats = slices.DeleteFunc(s.Seats, func(x api.Heard) bool { return x.Client == h.Client })
	s.Seats = append(s.Seats, h)
	slices.SortFunc(s.Seats, func(a, b api.Heard) int { return int(a.Client) - int(b.Client) })
	return s
}

// P15.3: a request that is not for the boot 1 is answered ErrBoot, whatever else it is; nothing is executed, and the answer is no seat.
func TestAsked(t *testing.T) {
	for _, asked := range []uint32{0, 2, 3, top} {
		b := startAt(t, filed(1, 5), 2, 4)
		b.does(ann, mkdirOf("/d"))
		was := b.s.State()
		for _, seq := range []uint32{0, 1, 2, 3, top} {
			for _, life := range []uint32{0, 1, 2} {
				p := asking(ann, life, seq, mkdirOf("/e"))
				p.Asked = asked
				b.same(p, b.handle(p), api.Packet{
					Kind: 2, To: ann, Life: life, Seq: seq, Asked: asked, Boot: 1,
					Op: api.Op{Code: api.OpMkdir, Err: api.ErrBoot},
				})
				b.is(was)
			}
		}
		b.does(ann, mkdirOf("/e"))
	}
	// Boot of the request is not asked.
	b := startNew(t, 1, 1)
	p := asking(ann, 1, 1, mkdirOf("/d"))
	p.Boot = 77
	b.same(p, b.handle(p), answering(p, api.Op{}))
}

// P15.3: what is New is executed, what comes Again is answered as before, what is Old or Early does nothing. The seat is the last answer's.
func TestJudged(t *testing.T) {
	for _, first := range []struct {
		life, seq uint32
		done      bool
	}{{0, 1, false}, {1, 0, false}, {1, 2, false}, {1, top, false}, {0, 0, false}, {1, 1, true}, {top, 1, true}} {
		b := startNew(t, 1, 1)
		p := asking(ann, first.life, first.seq, mkdirOf("/d"))
		l := b.handle(p)
		if first.done {
			b.same(p, l, answering(p, api.Op{}))
		} else {
			b.same(p, l)
		}
		if made := b.inode(2).Id == 2; made != first.done {
			t.Errorf("%+v: made = %v", p, made)
		}
	}
	b := startNew(t, 1, 1)
	b.does(ann, mkdirOf("/d"))
	b.does(ann, mkdirOf("/e"))
	b.fails(ann, mkdirOf("/e"), api.ErrThere)
	was := b.s.State()
	last := failing(asking(ann, 1, 3, mkdirOf("/e")), api.ErrThere)
	for _, x := range []struct {
		life, seq uint32
		want      []api.Packet
	}{
		{1, 3, []api.Packet{last}}, {1, 2, nil}, {1, 1, nil}, {1, 0, nil}, {1, 5, nil}, {1, top, nil},
		{0, 4, nil}, {0, 3, nil}, {2, 0, nil}, {2, 2, nil}, {2, 3, nil}, {2, 4, nil}, {top, 4, nil},
	} {
		// What the request says is not compared.
		p := asking(ann, x.life, x.seq, mkdirOf("/f"))
		b.same(p, b.handle(p), x.want...)
		b.is(was)
	}
	p := asking(ann, 1, 4, mkdirOf("/f"))
	b.same(p, b.handle(p), answering(p, api.Op{}))
	b.is(seated(api.State{
		Boot: 1, Next: 5, Seats: nil,
		Tree: []api.Inode{{Id: 1, Dir: true}, {Id: 2, Parent: 1, Name: "d", Dir: true}, {Id: 3, Parent: 1, Name: "e", Dir: true}, {Id: 4, Parent: 1, Name: "f", Dir: true}},
	}, answering(p, api.Op{})))
}

// P15.3: the last number of a life has none behind it; a greater life goes on.
func TestLastSeq(t *testing.T) {
	s := filed(1)
	s.Seats = []api.Heard{{Client: ann, Reply: answering(asking(ann, 4, top-1, statOf("/")), api.Op{})}}
	b := startAt(t, s, 1, 1)
	b.does(ann, mkdirOf("/d"))
	for _, seq := range []uint32{0, 1, top - 1} {
		p := asking(ann, 4, seq, mkdirOf("/e"))
		b.same(p, b.handle(p))
	}
	b.reborn(ann)
	b.does(ann, mkdirOf("/e"))
}

// P15.3: each client has a seat of its own, and they stand in order, whoever was heard first.
func TestSeats(t *testing.T) {
	b := startNew(t, 1, 1)
	want := b.s.State()
	for i, client := range []int{cat, ann, dan, bob} {
		p, l := b.ask(client, mkdirOf("/"+string(rune('a'+i))))
		b.same(p, l, answering(p, api.Op{}))
		want.Next++
		want.Tree = append(want.Tree, api.Inode{Id: uint32(2 + i), Parent: 1, Name: string(rune('a' + i)), Dir: true})
		want = seated(want, answering(p, api.Op{}))
		b.is(want)
	}
	for _, client := range []int{cat, ann, dan, bob} {
		p := asking(client, 1, 1, statOf("/"))
		b.same(p, b.handle(p), answering(asking(client, 1, 1, mkdirOf("/")), api.Op{}))
	}
}

// P15.3: a reply is sent again whole: with the fields that it had, when the state is another one since.
func TestAgainIsTheSame(t *testing.T) {
	s := filed(6, 30)
	for _, x := range []struct {
		o    api.Op
		want api.Op
	}{
		{openOf("/a", 7, 3, 0), api.Op{File: 2, Size: 30}},
		{getOf(7, 2), api.Op{File: 2, Epoch: 6, Size: 30, Mode: 2}},
		{grewOf(2, 6, 31), api.Op{Size: 31}},
		{statOf("/a"), api.Op{File: 2, Size: 31}},
		{listOf("/"), api.Op{Data: "a"}},
		{closeOf(7), api.Op{}},
		{removeOf("/a"), api.Op{}},
		{statOf("/a"), api.Op{Err: api.ErrNone}},
	} {
		b := startAt(t, s, 1, 4)
		p, l := b.ask(ann, x.o)
		if len(l) == 0 {
			t.Fatalf("%+v isn't answered", x.o)
		}
		b.same(p, l[:1], answering(p, x.want))
		b.same(p, b.handle(p), answering(p, x.want))
		s = b.s.State()
		b.does(bob, mkdirOf("/other"))
		b.same(p, b.handle(p), answering(p, x.want))
		b.restart()
		if again := b.handle(p); len(again) == 0 || again[0] != answering(p, x.want) {
			t.Errorf("%+v is answered %+v behind a restart", p, again)
		}
	}
}

// P15.3: with a greater life the opens of the client are cleared and its holds returned, for all locks and for that client alone, whatever comes of the request; all of it is one commit with the seat.
func TestNewLife(t *testing.T) {
	for _, x := range []struct {
		o    api.Op
		want api.Op
		then func(s *api.State)
	}{
		{statOf("/b"), api.Op{File: 3, Size: 20}, nil},
		{statOf("/none"), api.Op{Err: api.ErrNone}, nil},
		{mkdirOf("/d"), api.Op{Err: api.ErrThere}, nil},
		{closeOf(0), api.Op{Err: api.ErrFd}, nil},
		{getOf(0, 1), api.Op{Err: api.ErrFd}, nil},
		{takeOf(0, 0, "x"), api.Op{Err: api.ErrFd}, nil},
		{grewOf(2, 3, 11), api.Op{Err: api.ErrRevoked}, nil},
		{returnOf(2, 3), api.Op{}, nil},
		// The handle is free again, and what the elder life denied is not denied.
		{openOf("/b", 1, 1, 0), api.Op{File: 3, Size: 20}, func(s *api.State) {
			s.Opens = []api.Open{{Client: ann, Handle: 1, File: 3, Access: 1}, {Client: bob, Handle: 0, File: 3, Access: 3}}
		}},
		{removeOf("/a"), api.Op{}, func(s *api.State) {
			s.Tree = slices.Delete(s.Tree, 1, 2)
			s.Locks[0] = api.Lock{File: 2, Epoch: 4, Gone: true}
		}},
	} {
		for _, life := range []uint32{2, 3, top} {
			s := full()
			s.Works = nil
			s.Opens[0].Deny = 2
			s.Locks[2].Fenced = true
			s.Locks = append(s.Locks[:3], api.Lock{File: 7, Epoch: 9, Fenced: true, Used: 1, Holders: []api.Holder{{Client: ann, Mode: 1}}})
			s.Tree = append(s.Tree, api.Inode{Id: 7, Parent: 6, Name: "deep"})
			b := startAt(t, s, 1, 4)
			p := asking(ann, life, 1, x.o)
			l := b.handle(p)
			if len(l) == 0 {
				t.Fatalf("%+v isn't answered", x.o)
			}
			b.same(p, l[:1], answering(p, x.want))
			s.Boot++
			s.Opens = s.Opens[2:]
			s.Locks[0].Holders, s.Locks[3].Holders = nil, nil
			s.Locks[1].Holders = []api.Holder{{Client: bob, Mode: 1}}
			if x.then != nil {
				x.then(&s)
			}
			s = seated(s, answering(p, x.want))
			b.is(s)
			keeps(t, b.d, s)
		}
	}
}

// P15.3: the same life clears nothing, and a smaller one does nothing.
func TestSameLife(t *testing.T) {
	s := full()
	s.Works = nil
	b := startAt(t, s, 1, 4)
	was := b.s.State()
	p, l := b.ask(ann, statOf("/a"))
	b.is(seated(was, l[0]))
	was = b.s.State()
	b.same("a smaller life", b.handle(asking(bob, 1, 1, statOf("/a"))))
	b.is(was)
	b.same("a smaller life", b.handle(asking(bob, 1, 6, statOf("/a"))))
	b.is(was)
	b.same(p, b.handle(p), l[0])
}

// P15.3: a request that is a work already does nothing till the work ends; the next number is Early so long.
func TestWorkUnderWay(t *testing.T) {
	b := startAt(t, filed(1, 8), 1, 4)
	b.tells(ann, openOf("/a", 0, 3, 0), api.Op{File: 2, Size: 8})
	p := b.works(ann, giveOf(0, 0, 4), sending(1, 1, 1, 0, readOf(2, 1, 0, 4)))
	was := b.s.State()
	for _, o := range []api.Op{p.Op, statOf("/"), takeOf(0, 0, "x")} {
		b.same(o, b.handle(asking(ann, 1, 2, o)))
		b.same(o, b.handle(asking(ann, 1, 3, o)))
		b.same(o, b.handle(asking(ann, 1, 1, o)), answering(asking(ann, 1, 1, openOf("", 0, 0, 0)), api.Op{File: 2, Size: 8}))
		b.is(was)
	}
	b.replies(1, "word", answering(p, api.Op{Len: 4, Data: "word"}))
	b.same(p, b.handle(p), answering(p, api.Op{Len: 4, Data: "word"}))
	b.tells(ann, statOf("/a"), api.Op{File: 2, Size: 8})
}

// P15.3: the work's request arrives again at a server that began anew: it does nothing but for the work that goes on.
func TestWorkBehindRestart(t *testing.T) {
	b := startAt(t, filed(1, 8), 1, 4)
	b.tells(ann, openOf("/a", 0, 3, 0), api.Op{File: 2, Size: 8})
	p := b.works(ann, giveOf(0, 0, 4), sending(1, 1, 1, 0, readOf(2, 1, 0, 4)))
	b.restart()
	b.same(p, b.handle(p), sending(1, 2, 1, 0, readOf(2, 1, 0, 4)))
	b.same(p, b.handle(p))
	b.replies(1, "word", answering(p, api.Op{Len: 4, Data: "word"}))
	b.restart()
	b.same(p, b.handle(p), answering(p, api.Op{Len: 4, Data: "word"}))
}

// P15.3: a greater life waits for the work of the elder one, and for that of its own client alone; the work is answered to the elder life.
func TestNewLifeWaits(t *testing.T) {
	b := startAt(t, filed(1, 8, 8), 1, 4)
	b.tells(ann, openOf("/a", 0, 3, 0), api.Op{File: 2, Size: 8})
	b.tells(bob, openOf("/b", 0, 3, 0), api.Op{File: 3, Size: 8})
	p := b.works(ann, giveOf(0, 0, 4), sending(1, 1, 1, 0, readOf(2, 1, 0, 4)))
	b.reborn(ann)
	b.reborn(bob)
	was := b.s.State()
	for _, o := range []api.Op{statOf("/a"), openOf("/a", 0, 3, 0), p.Op} {
		b.same(o, b.handle(asking(ann, 2, 1, o)))
		b.same(o, b.handle(asking(ann, 5, 1, o)))
		b.is(was)
	}
	b.tells(bob, statOf("/a"), api.Op{File: 2, Size: 8})
	if l := b.s.State().Opens; len(l) != 1 || l[0].Client != ann {
		t.Errorf("the opens are %v", l)
	}
	b.replies(1, "word", answering(p, api.Op{Len: 4, Data: "word"}))
	b.tells(ann, statOf("/a"), api.Op{File: 2, Size: 8})
	if l := b.s.State().Opens; len(l) != 0 {
		t.Errorf("the opens are %v", l)
	}
}

// P15.3: each way in which a request can meet a work of its client, by lives and numbers that no run of requests leads to.
func TestWorkMet(t *testing.T) {
	for _, life := range []uint32{1, 2, 3, 4} {
		for _, seq := range []uint32{1, 2, 3, 4, 5, 6} {
			for _, w := range []struct{ life, seq uint32 }{{2, 5}, {2, 4}, {2, 6}, {1, 5}, {3, 1}, {3, 5}, {4, 1}, {0, 0}} {
				s := filed(1, 8)
				s.Locks[0].Fenced = false
				s.Works = []api.Work{{File: 2, Client: ann, Life: w.life, Seq: w.seq, Code: api.OpGive, Len: 1}}
				s.Seats = []api.Heard{{Client: ann, Reply: answering(asking(ann, 2, 4, statOf("/")), api.Op{Size: 9})}}
				b := startAt(t, s, 1, 4)
				b.tick()
				var want []api.Packet
				p := asking(ann, life, seq, statOf("/a"))
				done := api.Op{File: 2, Size: 8}
				switch {
				case life == 2 && seq == 4:
					want = []api.Packet{answering(asking(ann, 2, 4, statOf("/")), api.Op{Size: 9})}
				case life == 2 && seq == 5 && (w.life != 2 || w.seq != 5):
					want = []api.Packet{answering(p, done)}
				}
				b.same(p, b.handle(p), want...)
			}
		}
	}
}
