package mserver

import (
	"slices"
	"strings"
	"testing"

	"lamella/api"
)

// ended fails unless the state, here and in the rows, is that ahead of a work of the first file, with the seat of its answer, this size, and this lock.
func (b *bench) ended(was api.State, answer api.Packet, size uint32, l api.Lock) {
	b.t.Helper()
	want := seated(was, answer)
	want.Tree[1].Size, want.Locks[0] = size, l
	b.is(want)
	keeps(b.t, b.d, want)
}

// behindWork is the lock of the first file behind a work, with this cut.
func behindWork(cut uint32) api.Lock {
	return api.Lock{File: 2, Epoch: 5, Fenced: true, Used: 2, Cut: cut}
}

// P15.6: a work that is begun lets 0 hold its file to write. That grant alone is not committed.
func TestWorkBegins(t *testing.T) {
	b := startAt(t, opened(30, 0), 1, 4)
	want := b.s.State()
	b.works(ann, giveOf(0, 3, 2), sending(1, 1, 1, 0, readOf(2, 5, 3, 1)))
	want.Works = []api.Work{{File: 2, Client: ann, Life: 1, Seq: 5, Code: 23, Off: 3, Len: 2}}
	keeps(t, b.d, want)
	want.Locks[0].Used, want.Locks[0].Holders = 2, []api.Holder{{Client: 0, Mode: 2}}
	b.is(want)
	// A server that begins anew is granted it again, as the work is there still.
	b.restart()
	b.ticks(sending(1, 2, 1, 0, readOf(2, 5, 3, 1)))
	want.Boot++
	b.is(want)
}

// P15.4 to P15.6: an OpGive of several fragments on one server: an OpRead for each, one behind the other, no further than to the file's Size, and what is read is put together.
func TestGiveOneServer(t *testing.T) {
	b := startAt(t, opened(9, 0), 1, 4)
	was := b.s.State()
	p := b.works(ann, giveOf(0, 2, 64), sending(1, 1, 1, 0, readOf(2, 5, 2, 2)))
	b.replies(1, "ab", sending(1, 1, 2, 0, readOf(2, 5, 4, 4)))
	b.replies(1, "cdef", sending(1, 1, 3, 0, readOf(2, 5, 8, 1)))
	answer := answering(p, api.Op{Len: 7, Data: "abcdefg"})
	b.replies(1, "g", answer)
	b.ended(was, answer, 9, behindWork(9))
	b.fails(bob, getOf(0, 1), api.ErrDelay, sending(1, 1, 4, 0, fenceOf(2, 6, 9)))
}

// P15.4 to P15.6: an OpGive over several servers: each has its part, all of them at once, and the bytes stand in the order of the file, in whatever order they come. File 2 begins on server 3.
func TestGiveServers(t *testing.T) {
	for _, order := range [][]int{{1, 1, 2, 3}, {1, 2, 3, 1}, {2, 1, 3, 1}, {3, 2, 1, 1}, {1, 3, 1, 2}} {
		b := startAt(t, opened(1000, 0), 3, 4)
		was := b.s.State()
		p := b.works(ann, giveOf(0, 5, 13), sending(1, 1, 1, 0, readOf(2, 5, 1, 3)), sending(2, 1, 1, 0, readOf(2, 5, 0, 4)), sending(3, 1, 1, 0, readOf(2, 5, 4, 4)))
		answer := answering(p, api.Op{Len: 13, Data: "abcdefghijklm"})
		told := map[int][]string{1: {"abc", "lm"}, 2: {"defg"}, 3: {"hijk"}}
		for i, server := range order {
			var want []api.Packet
			if server == 1 && len(told[1]) == 2 {
				want = append(want, sending(1, 1, 2, 0, readOf(2, 5, 4, 2)))
			}
			if i == 3 {
				want = append(want, answer)
			}
			b.replies(server, told[server][0], want...)
			told[server] = told[server][1:]
		}
		b.ended(was, answer, 1000, behindWork(1000))
	}
}

// P15.4 to P15.6: an OpTake of several fragments on one server: an OpWrite for each, and then an OpCommit.
func TestTakeOneServer(t *testing.T) {
	b := startAt(t, opened(9, 0), 1, 4)
	was := b.s.State()
	p := b.works(ann, takeOf(0, 2, "ABCDEFG"), sending(1, 1, 1, 0, writeTo(2, 5, 2, "AB")))
	b.replies(1, "", sending(1, 1, 2, 0, writeTo(2, 5, 4, "CDEF")))
	b.replies(1, "", sending(1, 1, 3, 0, writeTo(2, 5, 8, "G")))
	b.replies(1, "", sending(1, 1, 4, 0, commitOf(2, 5)))
	answer := answering(p, api.Op{Len: 7})
	b.replies(1, "", answer)
	b.ended(was, answer, 9, behindWork(9))
}

// P15.4 to P15.6: an OpTake over several servers: each that has fragments has OpWrites and an OpCommit of its own; the others aren't asked.
func TestTakeServers(t *testing.T) {
	b := startAt(t, opened(30, 0), 4, 4)
	was := b.s.State()
	// File 2 begins on server 3: the bytes 14 to 21 lie on the servers 2, 3 and 4.
	p := b.works(ann, takeOf(0, 14, "ABCDEFGH"), sending(2, 1, 1, 0, writeTo(2, 5, 2, "AB")), sending(3, 1, 1, 0, writeTo(2, 5, 4, "CDEF")), sending(4, 1, 1, 0, writeTo(2, 5, 4, "GH")))
	b.replies(3, "", sending(3, 1, 2, 0, commitOf(2, 5)))
	b.replies(3, "")
	b.replies(2, "", sending(2, 1, 2, 0, commitOf(2, 5)))
	b.replies(4, "", sending(4, 1, 2, 0, commitOf(2, 5)))
	b.replies(4, "")
	answer := answering(p, api.Op{Len: 8})
	b.replies(2, "", answer)
	b.ended(was, answer, 30, behindWork(30))
}

// P15.6: behind an OpTake the file's Size and the lock's Cut become its end, if that is greater than each, up to the greatest size; with an error they stay.
func TestTakeGrows(t *testing.T) {
	for _, x := range []struct {
		size, cut, off, n uint32
		sizeTo, cutTo     uint32
	}{
		{9, 9, 8, 1, 9, 9}, {9, 9, 9, 1, 10, 10}, {9, 9, 100, 2, 102, 102}, {0, 0, 960, 64, 1024, 1024},
		{9, 20, 10, 4, 14, 20}, {20, 9, 10, 4, 20, 14}, {20, 9, 0, 4, 20, 9},
	} {
		for _, e := range []api.Errno{api.OK, api.ErrFull, api.ErrEpoch} {
			s := opened(x.size, 0)
			s.Locks[0].Cut = x.cut
			b := startAt(t, s, 1, 64)
			was := b.s.State()
			p, _ := b.ask(ann, takeOf(0, x.off, mixed(0, int(x.n))))
			if e != api.OK {
				answer := failing(p, map[api.Errno]api.Errno{api.ErrFull: api.ErrFull, api.ErrEpoch: api.ErrRevoked}[e])
				b.refuses(1, e, answer)
				b.ended(was, answer, x.size, behindWork(x.cut))
				continue
			}
			answer := answering(p, api.Op{Len: x.n})
			if rest := b.quiet(); !slices.Equal(rest, []api.Packet{answer}) {
				t.Errorf("%+v sends %+v", x, rest)
			}
			b.ended(was, answer, x.sizeTo, behindWork(x.cutTo))
		}
	}
}

// P15.4 to P15.6: the greatest work: units of one byte on 16 servers.
func TestGreatWork(t *testing.T) {
	b := startAt(t, opened(1024, 0), 16, 1)
	data := mixed(3, 64)
	p, _ := b.ask(ann, takeOf(0, 960, data))
	written := make([]byte, 64)
	for len(b.out) > 0 {
		for server := 1; server <= 16; server++ {
			// Byte x of file 2 is on server 1 + (x + 2) mod 16.
			if o := b.out[server].Op; o.Code == api.OpWrite {
				written[int(o.Off)*16+(server+13)%16-960] = o.Data[0]
			}
			l := b.reply(server, api.OK, "")
			if len(b.out) == 0 {
				b.same("the end", l, answering(p, api.Op{Len: 64}))
			}
		}
	}
	if string(written) != data {
		t.Errorf("%q is written, want %q", written, data)
	}
}

// P15.4, P15.5: an OpGive from behind the file's Size on has no fragments: it is answered as soon as it is begun, at once or when the lock is settled.
func TestGiveBehindTheEnd(t *testing.T) {
	for _, off := range []uint32{30, 31, 1023} {
		b := startAt(t, opened(30, 0), 2, 4)
		was := b.s.State()
		p, l := b.ask(ann, giveOf(0, off, 1))
		b.same(p, l, answering(p, api.Op{}))
		b.ended(was, l[0], 30, behindWork(30))
		s := opened(30, 0)
		s.Locks[0].Fenced = false
		b = startAt(t, s, 1, 4)
		p = b.works(ann, giveOf(0, off, 1), sending(1, 1, 1, 0, fenceOf(2, 5, 30)))
		b.replies(1, "", answering(p, api.Op{}))
	}
	// One that begins ahead of it ends there.
	b := startAt(t, opened(30, 0), 1, 64)
	p := b.works(ann, giveOf(0, 29, 1), sending(1, 1, 1, 0, readOf(2, 5, 29, 1)))
	b.replies(1, "z", answering(p, api.Op{Len: 1, Data: "z"}))
}

// P15.5: how far an OpGive reads hangs on the Size when it is begun, not when it was asked for.
func TestGiveSizeWhenBegun(t *testing.T) {
	b := startAt(t, opened(10, 2, api.Holder{Client: bob, Mode: 2}), 1, 64)
	p := b.works(ann, giveOf(0, 5, 60), calling(bob, 2, 5))
	b.tells(bob, grewOf(2, 5, 20), api.Op{Size: 20})
	b.does(bob, returnOf(2, 5), sending(1, 1, 1, 0, fenceOf(2, 6, 20)))
	b.replies(1, "", sending(1, 1, 2, 0, readOf(2, 6, 5, 15)))
	b.replies(1, mixed(1, 15), answering(p, api.Op{Len: 15, Data: mixed(1, 15)}))
}

// P15.5: what a server returns for an OpRead is used as it is, be it fewer bytes or more, and Len is the length of all of it: up to the 108 bytes that a seat can have.
func TestGiveOtherBytes(t *testing.T) {
	for _, data := range []string{"", "a", "abcdefgh", mixed(9, 104)} {
		b := startAt(t, opened(30, 0), 2, 4)
		was := b.s.State()
		p := b.works(ann, giveOf(0, 2, 6), sending(1, 1, 1, 0, readOf(2, 5, 2, 2)), sending(2, 1, 1, 0, readOf(2, 5, 0, 4)))
		b.replies(2, data)
		answer := answering(p, api.Op{Len: uint32(4 + len(data)), Data: "wxyz" + data})
		b.replies(1, "wxyz", answer)
		b.ended(was, answer, 30, behindWork(30))
		b.restart()
		b.same(p, b.handle(p), answer)
	}
}

// P15.5: an answer of more bytes than a seat can have: the device dies at it, the server is down, and nothing is sent. Behind a crash the work is there still, and is done anew.
func TestGiveTooManyBytes(t *testing.T) {
	for _, data := range []string{mixed(9, 105), mixed(9, 128)} {
		b := startAt(t, opened(30, 0), 2, 4)
		before := b.s.State()
		p, _ := b.ask(ann, giveOf(0, 2, 6))
		was := b.s.State()
		b.replies(2, data)
		b.replies(1, "wxyz")
		b.isDown(was)
		if !b.d.Dead() {
			t.Error("the device is not dead")
		}
		b.crash(0)
		b.same(p, b.handle(p), sending(1, 2, 1, 0, readOf(2, 5, 2, 2)), sending(2, 2, 1, 0, readOf(2, 5, 0, 4)))
		b.replies(2, "efgh")
		answer := answering(p, api.Op{Len: 6, Data: "cdefgh"})
		b.replies(1, "cd", answer)
		before.Boot++
		b.ended(before, answer, 30, behindWork(30))
	}
	// With an error nothing of it is told, so that the answer is a seat.
	b := startAt(t, opened(30, 0), 2, 4)
	p, _ := b.ask(ann, giveOf(0, 2, 6))
	b.replies(2, mixed(9, 128))
	b.refuses(1, api.ErrEpoch, failing(p, api.ErrRevoked))
}

// P15.5: with an error the part of a server is finished, be it at its first request, at one between or at the last one; the other parts are not. The work's error is ErrFull for ErrFull, and ErrRevoked for all others.
func TestWorkErrors(t *testing.T) {
	for e := api.ErrArg; e <= api.ErrSpoilt; e++ {
		told := api.ErrRevoked
		if e == api.ErrFull {
			told = api.ErrFull
		}
		for at := range 3 {
			b := startAt(t, opened(30, 0), 2, 4)
			was := b.s.State()
			// Each server has two units of it.
			p, _ := b.ask(ann, takeOf(0, 0, mixed(0, 16)))
			for range at {
				b.reply(1, api.OK, "")
			}
			b.refuses(1, e)
			b.replies(2, "", sending(2, 1, 2, 0, writeTo(2, 5, 4, mixed(12, 4))))
			b.replies(2, "", sending(2, 1, 3, 0, commitOf(2, 5)))
			b.replies(2, "", failing(p, told))
			b.ended(was, failing(p, told), 30, behindWork(30))
			b = startAt(t, opened(30, 0), 1, 4)
			p, _ = b.ask(ann, giveOf(0, 0, 12))
			for range at {
				b.reply(1, api.OK, "abcd")
			}
			b.refuses(1, e, failing(p, told))
		}
	}
}

// P15.5: of several errors the first one counts, by the order in which they come.
func TestFirstError(t *testing.T) {
	for _, x := range []struct{ first, second, told api.Errno }{
		{api.ErrFull, api.ErrEpoch, api.ErrFull}, {api.ErrEpoch, api.ErrFull, api.ErrRevoked},
		{api.ErrFull, api.ErrFull, api.ErrFull}, {api.ErrBig, api.ErrEpoch, api.ErrRevoked},
	} {
		for _, order := range [][]int{{1, 2}, {2, 1}} {
			b := startAt(t, opened(30, 0), 2, 4)
			p, _ := b.ask(ann, takeOf(0, 2, "abcd"))
			b.refuses(order[0], x.first)
			b.refuses(order[1], x.second, failing(p, x.told))
		}
	}
}

// P15.5: a reply that the line does not take does nothing: of another life, for another boot, of another number, or when nothing is outstanding.
func TestRepliesOfNothing(t *testing.T) {
	for what, change := range map[string]func(p *api.Packet){
		"an elder life":  func(p *api.Packet) { p.Life-- },
		"a greater life": func(p *api.Packet) { p.Life++ },
		"another boot":   func(p *api.Packet) { p.Asked++ },
		"an elder one":   func(p *api.Packet) { p.Seq-- },
		"an early one":   func(p *api.Packet) { p.Seq += 5 },
		"another server": func(p *api.Packet) { p.From = 2 },
	} {
		for _, boot := range []uint32{0, 7} {
			for _, e := range []api.Errno{api.OK, api.ErrFull} {
				b := startAt(t, opened(30, 0), 2, 64)
				p := b.works(ann, takeOf(0, 2, "ab"), sending(1, 1, 1, 0, writeTo(2, 5, 2, "ab")))
				was := b.s.State()
				q := replying(b.out[1], boot, e, "")
				change(&q)
				b.same(what, b.handle(q))
				b.is(was)
				// The request is outstanding still.
				b.replies(1, "", sending(1, 1, 2, 0, commitOf(2, 5)))
				b.same(what, b.handle(q))
				b.replies(1, "", answering(p, api.Op{Len: 2}))
				was = b.s.State()
				b.same(what, b.handle(q))
				b.is(was)
			}
		}
	}
}

// P15.5: which request a reply is for is told by its number alone; what it says of a code and a file is not asked.
func TestReplyOfAnotherCode(t *testing.T) {
	b := startAt(t, opened(30, 0), 1, 64)
	p := b.works(ann, takeOf(0, 2, "ab"), sending(1, 1, 1, 0, writeTo(2, 5, 2, "ab")))
	for _, want := range [][]api.Packet{{sending(1, 1, 2, 0, commitOf(2, 5))}, {answering(p, api.Op{Len: 2})}} {
		q := replying(b.out[1], 0, api.OK, "data")
		q.Op.Code, q.Op.File, q.Op.Epoch = api.OpFree, 77, 9
		b.same(q, b.handle(q), want...)
	}
}

// P15.5: a reply from another boot: the request, whatever it was, is sent again, for that boot, and numbers begin anew; so it is at each further one, also an elder one. What the server is known to know stays so.
func TestReboot(t *testing.T) {
	s := opened(30, 0)
	s.Tree, s.Locks = append(s.Tree, api.Inode{Id: 4, Parent: 1, Name: "c"}), append(s.Locks, api.Lock{File: 3, Epoch: 8, Gone: true}, api.Lock{File: 4, Epoch: 8})
	s.Next = 5
	b := startAt(t, s, 2, 64)
	b.ticks(sending(1, 1, 1, 0, freeOf(3)), sending(2, 1, 1, 0, freeOf(3)))
	b.reboots(1, 6, sending(1, 1, 1, 6, freeOf(3)))
	b.reboots(1, 7, sending(1, 1, 1, 7, freeOf(3)))
	b.replies(1, "", sending(1, 1, 2, 7, fenceOf(4, 8, 0)))
	b.reboots(1, 5, sending(1, 1, 1, 5, fenceOf(4, 8, 0)))
	b.replies(1, "")
	b.reboots(2, top, sending(2, 1, 1, top, freeOf(3)))
	b.replies(2, "", sending(2, 1, 2, top, fenceOf(4, 8, 0)))
	b.reboots(2, 1, sending(2, 1, 1, 1, fenceOf(4, 8, 0)))
	b.replies(2, "")
	b.locked(api.Lock{File: 4, Epoch: 8, Fenced: true})
	if len(b.s.State().Locks) != 2 {
		t.Errorf("the locks are %+v", b.s.State().Locks)
	}
	// An answer that comes from another boot has no effect, though it tells no error.
	b.fails(ann, sizeTo(7, 7), api.ErrFd)
	b.does(ann, sizeTo(0, 7), sending(1, 1, 2, 5, fenceOf(2, 6, 7)), sending(2, 1, 2, 1, fenceOf(2, 6, 0)))
	p := b.out[1]
	b.same(p, b.handle(replying(p, 9, api.OK, "")), sending(1, 1, 1, 9, fenceOf(2, 6, 7)))
	b.replies(2, "")
	b.locked(api.Lock{File: 2, Epoch: 6, Cut: 7})
	b.replies(1, "")
	b.locked(api.Lock{File: 2, Epoch: 6, Fenced: true, Cut: 7})
}

// P15.5: a server that reboots while an OpWrite or an OpCommit is outstanding begins its part anew, and that alone; the other servers go on.
func TestRebootWhileTaking(t *testing.T) {
	for at := range 3 {
		b := startAt(t, opened(30, 0), 2, 4)
		p, _ := b.ask(ann, takeOf(0, 0, mixed(0, 16)))
		first := []api.Packet{sending(1, 1, 1, 8, writeTo(2, 5, 0, mixed(0, 4))), sending(1, 1, 2, 8, writeTo(2, 5, 4, mixed(8, 4))), sending(1, 1, 3, 8, commitOf(2, 5))}
		b.replies(2, "", sending(2, 1, 2, 0, writeTo(2, 5, 4, mixed(12, 4))))
		for i := range at {
			then := first[i+1]
			then.Asked = 0
			b.replies(1, "", then)
		}
		b.reboots(1, 8, first[0])
		b.replies(1, "", first[1])
		b.replies(1, "", first[2])
		b.replies(1, "")
		b.replies(2, "", sending(2, 1, 3, 0, commitOf(2, 5)))
		b.replies(2, "", answering(p, api.Op{Len: 16}))
	}
}

// P15.5: a server that reboots while an OpRead is outstanding begins its part anew: what it told ahead of that is not used.
func TestRebootWhileGiving(t *testing.T) {
	for at := range 3 {
		b := startAt(t, opened(12, 0), 1, 4)
		p, _ := b.ask(ann, giveOf(0, 0, 12))
		for range at {
			b.reply(1, api.OK, "elder")
		}
		b.reboots(1, 3, sending(1, 1, 1, 3, readOf(2, 5, 0, 4)))
		b.replies(1, "abcd", sending(1, 1, 2, 3, readOf(2, 5, 4, 4)))
		b.replies(1, "efgh", sending(1, 1, 3, 3, readOf(2, 5, 8, 4)))
		b.replies(1, "ijkl", answering(p, api.Op{Len: 12, Data: "abcdefghijkl"}))
	}
}

// P15.5: at a reboot the server's part of each work begins anew: of those that it was not asked for just then, too, and also where it was finished, be it by an error; the error stays.
func TestRebootOfFinishedPart(t *testing.T) {
	for _, e := range []api.Errno{api.OK, api.ErrFull, api.ErrEpoch} {
		s := opened(30, 0)
		s.Tree, s.Locks, s.Next = append(s.Tree, api.Inode{Id: 3, Parent: 1, Name: "b"}), append(s.Locks, api.Lock{File: 3, Epoch: 2, Fenced: true}), 4
		s.Opens = slices.Insert(s.Opens, 2, api.Open{Client: bob, Handle: 1, File: 3, Access: 3})
		b := startAt(t, s, 2, 4)
		p := b.works(ann, takeOf(0, 2, "abcd"), sending(1, 1, 1, 0, writeTo(2, 5, 2, "ab")), sending(2, 1, 1, 0, writeTo(2, 5, 0, "cd")))
		q := b.works(bob, takeOf(1, 4, "efgh"))
		// File 3 begins on server 2.
		if e == api.OK {
			b.replies(1, "", sending(1, 1, 2, 0, commitOf(2, 5)))
			b.replies(1, "", sending(1, 1, 3, 0, writeTo(3, 2, 0, "efgh")))
		} else {
			b.refuses(1, e, sending(1, 1, 2, 0, writeTo(3, 2, 0, "efgh")))
		}
		b.reboots(1, 4, sending(1, 1, 1, 4, writeTo(2, 5, 2, "ab")))
		b.replies(2, "", sending(2, 1, 2, 0, commitOf(2, 5)))
		b.replies(2, "")
		b.replies(1, "", sending(1, 1, 2, 4, commitOf(2, 5)))
		answer := map[api.Errno]api.Packet{api.OK: answering(p, api.Op{Len: 4}), api.ErrFull: failing(p, api.ErrFull), api.ErrEpoch: failing(p, api.ErrRevoked)}[e]
		b.replies(1, "", answer, sending(1, 1, 3, 4, writeTo(3, 2, 0, "efgh")))
		b.replies(1, "", sending(1, 1, 4, 4, commitOf(3, 2)))
		b.replies(1, "", answering(q, api.Op{Len: 4}))
	}
}

// P15.5: a fence or a free that is answered with an error is not known: it is sent again, with the next number.
func TestFenceRefused(t *testing.T) {
	for e := api.ErrArg; e <= api.ErrSpoilt; e++ {
		s := opened(30, 0)
		s.Locks[0].Fenced = false
		s.Locks, s.Next = append(s.Locks, api.Lock{File: 3, Epoch: 8, Gone: true}), 4
		b := startAt(t, s, 2, 64)
		was := b.s.State()
		b.ticks(sending(1, 1, 1, 0, fenceOf(2, 5, 30)), sending(2, 1, 1, 0, fenceOf(2, 5, 0)))
		b.refuses(1, e, sending(1, 1, 2, 0, fenceOf(2, 5, 30)))
		b.replies(2, "", sending(2, 1, 2, 0, freeOf(3)))
		b.refuses(2, e, sending(2, 1, 3, 0, freeOf(3)))
		b.is(was)
		b.replies(1, "", sending(1, 1, 3, 0, freeOf(3)))
		b.replies(1, "")
		if len(b.s.State().Locks) != 2 {
			t.Errorf("%d: the lock of a file that is gone is gone ahead of the last answer", e)
		}
		b.replies(2, "")
		if l := b.s.State().Locks; len(l) != 1 || !l[0].Fenced {
			t.Errorf("%d: the locks are %+v", e, l)
		}
	}
}

// P15.5: an epoch that all servers know of a lock that has turned since settles nothing; the servers are told what is now.
func TestTurnedSince(t *testing.T) {
	// At the last epoch it is not turned, but gone all the same.
	for _, epoch := range []uint32{5, top} {
		s := filed(epoch, 30)
		s.Locks[0].Fenced = false
		b := startAt(t, s, 2, 64)
		b.ticks(sending(1, 1, 1, 0, fenceOf(2, epoch, 30)), sending(2, 1, 1, 0, fenceOf(2, epoch, 0)))
		b.replies(1, "")
		b.does(ann, removeOf("/a"), sending(1, 1, 2, 0, freeOf(2)))
		was := b.s.State()
		b.replies(2, "", sending(2, 1, 2, 0, freeOf(2)))
		b.is(was)
		b.replies(2, "")
		b.is(was)
		b.replies(1, "")
		was.Locks = nil
		b.is(was)
	}
}

// P15.5: a lock whose epoch is 0 is one that no server knows until it has said so.
func TestEpochZero(t *testing.T) {
	b := startAt(t, filed(0, 30), 2, 64)
	b.ticks()
	s := filed(0, 30)
	s.Locks[0].Fenced = false
	b = startAt(t, s, 2, 64)
	b.ticks(sending(1, 1, 1, 0, fenceOf(2, 0, 30)), sending(2, 1, 1, 0, fenceOf(2, 0, 0)))
	b.replies(1, "")
	b.locked(s.Locks[0])
	b.replies(2, "")
	b.locked(api.Lock{File: 2, Fenced: true, Cut: 30})
}

// P15.6: a work waits for the data servers where the lock is not fenced, turns it where others were granted something in its epoch, which is committed, and is begun when all know the new one.
func TestWorkTurns(t *testing.T) {
	for _, used := range []uint32{0, 1, 2} {
		for _, fenced := range []bool{false, true} {
			s := opened(30, used)
			s.Locks[0].Fenced = fenced
			b := startAt(t, s, 1, 64)
			want := b.s.State()
			epoch := uint32(5)
			turns := fenced && used > 0
			want.Works = []api.Work{{File: 2, Client: ann, Life: 1, Seq: 5, Code: 24, Off: 1, Len: 2, Data: "ab"}}
			if turns {
				epoch = 6
				want.Locks[0] = api.Lock{File: 2, Epoch: 6, Cut: 30}
			}
			if fenced && used == 0 {
				continue
			}
			p := b.works(ann, takeOf(0, 1, "ab"), sending(1, 1, 1, 0, fenceOf(2, epoch, 30)))
			b.is(want)
			keeps(t, b.d, want)
			sent := []api.Packet{sending(1, 1, 2, 0, writeTo(2, epoch, 1, "ab"))}
			if !turns && used > 0 {
				// What was granted in the epoch that is known now is not compatible.
				epoch = 6
				sent = []api.Packet{sending(1, 1, 2, 0, fenceOf(2, 6, 30))}
			}
			b.replies(1, "", sent...)
			if !turns && used > 0 {
				b.replies(1, "", sending(1, 1, 3, 0, writeTo(2, 6, 1, "ab")))
			}
			b.locked(api.Lock{File: 2, Epoch: epoch, Fenced: true, Used: 2, Cut: 30, Holders: []api.Holder{{Client: 0, Mode: 2}}})
			if rest := b.quiet(); !slices.Equal(rest, []api.Packet{answering(p, api.Op{Len: 2})}) {
				t.Errorf("used %d, fenced %v: %+v is sent", used, fenced, rest)
			}
		}
	}
}

// P15.6: where others hold the file, a work lets them be asked to give it back, all of them, the client of the work too; it is begun when all have done so.
func TestWorkConflicts(t *testing.T) {
	b := startAt(t, opened(30, 1, api.Holder{Client: ann, Mode: 1}, api.Holder{Client: cat, Mode: 1}), 1, 64)
	p := b.works(ann, giveOf(0, 0, 2), calling(ann, 2, 5), calling(cat, 2, 5))
	b.fails(bob, giveOf(0, 0, 2), api.ErrDelay)
	b.ticks(calling(ann, 2, 5), calling(cat, 2, 5))
	b.does(cat, returnOf(2, 5))
	b.ticks()
	b.ticks(calling(ann, 2, 5))
	// Ann can ask for nothing till her work is done: her hold is revoked when the lease is over.
	b.ticks()
	b.ticks(calling(ann, 2, 5))
	b.ticks(sending(1, 1, 1, 0, fenceOf(2, 6, 30)))
	b.replies(1, "", sending(1, 1, 2, 0, readOf(2, 6, 0, 2)))
	b.replies(1, "ab", answering(p, api.Op{Len: 2, Data: "ab"}))
}

// P15.6: works are begun and ended by File, and their requests are sent by File: of each server the first one that is due.
func TestWorksByFile(t *testing.T) {
	s := opened(30, 0)
	s.Tree = append(s.Tree, api.Inode{Id: 3, Parent: 1, Name: "b", Size: 5}, api.Inode{Id: 4, Parent: 1, Name: "c", Size: 5})
	s.Locks = append(s.Locks, api.Lock{File: 3, Epoch: 2, Fenced: true, Cut: 5}, api.Lock{File: 4, Epoch: 3, Fenced: true, Cut: 5})
	s.Next = 5
	s.Works = []api.Work{
		{File: 2, Client: cat, Life: 1, Seq: 5, Code: 23, Off: 30, Len: 1},
		{File: 3, Client: bob, Life: 1, Seq: 5, Code: 23, Off: 5, Len: 1},
		{File: 4, Client: ann, Life: 1, Seq: 5, Code: 23, Off: 6, Len: 1},
	}
	b := startAt(t, s, 1, 64)
	give := func(client int) api.Packet { return asking(client, 1, 5, giveOf(0, 0, 0)) }
	b.ticks(answering(give(cat), api.Op{}), answering(give(bob), api.Op{}), answering(give(ann), api.Op{}))
	if l := b.s.State().Works; len(l) != 0 {
		t.Errorf("the works are %+v", l)
	}
	// The same works with bytes: all of file 2 is asked ahead of file 3, and that ahead of file 4.
	s.Works[0].Off, s.Works[1].Off, s.Works[2].Off = 29, 4, 0
	s.Works[1].Len = 60
	s.Works[2].Code, s.Works[2].Data = 24, "x"
	b = startAt(t, s, 1, 64)
	b.ticks(sending(1, 1, 1, 0, readOf(2, 5, 29, 1)))
	b.replies(1, "p", answering(give(cat), api.Op{Len: 1, Data: "p"}), sending(1, 1, 2, 0, readOf(3, 2, 4, 1)))
	b.replies(1, "q", answering(give(bob), api.Op{Len: 1, Data: "q"}), sending(1, 1, 3, 0, writeTo(4, 3, 0, "x")))
	b.replies(1, "", sending(1, 1, 4, 0, commitOf(4, 3)))
	b.replies(1, "", answering(asking(ann, 1, 5, takeOf(0, 0, "")), api.Op{Len: 1}))
}

// P15.6: of frees, fences and works' requests the first one by File is sent to each server, whatever it is.
func TestDueByFile(t *testing.T) {
	kinds := []string{"gone", "fence", "work"}
	for _, first := range kinds {
		for _, second := range kinds {
			for _, third := range kinds {
				s := api.State{Next: 5, Tree: []api.Inode{{Id: 1, Dir: true}}}
				var want []api.Packet
				for i, kind := range []string{first, second, third} {
					file := uint32(2 + i)
					l := api.Lock{File: file, Epoch: 7, Cut: 9}
					o := fenceOf(file, 7, 9)
					switch kind {
					case "gone":
						l.Gone, l.Cut = true, 0
						o = freeOf(file)
					case "work":
						l.Fenced = true
						s.Works = append(s.Works, api.Work{File: file, Client: uint32(ann + i), Life: 1, Seq: 1, Code: 24, Len: 1, Data: "x"})
						o = writeTo(file, 7, 0, "x")
					}
					s.Locks = append(s.Locks, l)
					if kind != "gone" {
						s.Tree = append(s.Tree, api.Inode{Id: file, Parent: 1, Name: string(rune('a' + i))})
					}
					want = append(want, sending(1, 1, uint32(len(want)+1), 0, o))
					if kind == "work" {
						want = append(want, sending(1, 1, uint32(len(want)+1), 0, commitOf(file, 7)))
					}
				}
				b := startAt(t, s, 1, 64)
				b.ticks(want[0])
				for i := range want {
					l := b.reply(1, api.OK, "")
					if i+1 < len(want) {
						b.same(first+second+third, l[len(l)-1:], want[i+1])
					}
				}
				if len(b.out) != 0 {
					t.Errorf("%s, %s, %s: %+v is outstanding", first, second, third, b.out)
				}
			}
		}
	}
}

// P15.6: to each server for which nothing is outstanding one request is sent, by number: those that are busy are left alone.
func TestOneOutstanding(t *testing.T) {
	b := startNew(t, 3, 4)
	b.tells(ann, openOf("/a", 0, 7, 0), api.Op{File: 2}, sending(1, 1, 1, 0, fenceOf(2, 1, 0)), sending(2, 1, 1, 0, fenceOf(2, 1, 0)), sending(3, 1, 1, 0, fenceOf(2, 1, 0)))
	b.replies(2, "")
	b.tells(ann, openOf("/b", 1, 7, 0), api.Op{File: 3}, sending(2, 1, 2, 0, fenceOf(3, 1, 0)))
	b.tells(ann, openOf("/c", 2, 7, 0), api.Op{File: 4})
	b.replies(2, "", sending(2, 1, 3, 0, fenceOf(4, 1, 0)))
	b.replies(2, "")
	b.replies(3, "", sending(3, 1, 2, 0, fenceOf(3, 1, 0)))
	b.replies(1, "", sending(1, 1, 2, 0, fenceOf(3, 1, 0)))
	b.locked(api.Lock{File: 2, Epoch: 1, Fenced: true})
	b.locked(api.Lock{File: 3, Epoch: 1})
}

// P15.6: a work whose number is not the next one of its client ends without an answer, and leaves the seat alone; so it may be in a state that no run of requests leads to.
func TestWorkWithoutAnswer(t *testing.T) {
	for _, x := range []struct{ life, seq uint32 }{{1, 4}, {1, 3}, {1, 6}, {2, 2}, {0, 1}, {1, 0}} {
		s := opened(30, 0)
		s.Works = []api.Work{{File: 2, Client: ann, Life: x.life, Seq: x.seq, Code: 24, Off: 30, Len: 2, Data: "ab"}}
		b := startAt(t, s, 1, 64)
		b.ticks(sending(1, 1, 1, 0, writeTo(2, 5, 30, "ab")))
		b.replies(1, "", sending(1, 1, 2, 0, commitOf(2, 5)))
		b.replies(1, "")
		s.Boot, s.Works = 1, nil
		s.Tree[1].Size, s.Locks[0] = 32, behindWork(32)
		b.is(s)
		keeps(t, b.d, s)
	}
	// So it may be with more bytes than a seat can have.
	s := opened(30, 0)
	s.Works = []api.Work{{File: 2, Client: ann, Life: 1, Seq: 4, Code: 23, Len: 2}}
	b := startAt(t, s, 1, 64)
	b.ticks(sending(1, 1, 1, 0, readOf(2, 5, 0, 2)))
	b.replies(1, strings.Repeat("x", 128))
	if b.s.Down() {
		t.Error("the server is down")
	}
	// A greater life begins anew with number 1.
	s.Works[0].Life, s.Works[0].Seq = 2, 1
	b = startAt(t, s, 1, 64)
	b.tick()
	b.replies(1, "xy", answering(asking(ann, 2, 1, giveOf(0, 0, 0)), api.Op{Len: 2, Data: "xy"}))
}

// P15.6: in one call the recall of a work that can't begin is sent ahead of the answer of one that ends, and that ahead of the requests to data servers.
func TestWorkOrder(t *testing.T) {
	s := opened(30, 2, api.Holder{Client: dan, Mode: 2})
	s.Tree = append(s.Tree, api.Inode{Id: 3, Parent: 1, Name: "b", Size: 5}, api.Inode{Id: 4, Parent: 1, Name: "c", Size: 5})
	s.Locks = append(s.Locks, api.Lock{File: 3, Epoch: 2, Fenced: true, Cut: 5}, api.Lock{File: 4, Epoch: 3})
	s.Next = 5
	s.Works = []api.Work{
		{File: 2, Client: ann, Life: 1, Seq: 5, Code: 23, Len: 1},
		{File: 3, Client: bob, Life: 1, Seq: 5, Code: 23, Off: 5, Len: 1},
	}
	b := startAt(t, s, 2, 64)
	b.ticks(calling(dan, 2, 5), answering(asking(bob, 1, 5, giveOf(0, 0, 0)), api.Op{}), sending(1, 1, 1, 0, fenceOf(4, 3, 0)), sending(2, 1, 1, 0, fenceOf(4, 3, 0)))
	b = startAt(t, s, 2, 64)
	b.tells(cat, statOf("/"), api.Op{File: 1, Mode: 1}, calling(dan, 2, 5), answering(asking(bob, 1, 5, giveOf(0, 0, 0)), api.Op{}), sending(1, 1, 1, 0, fenceOf(4, 3, 0)), sending(2, 1, 1, 0, fenceOf(4, 3, 0)))
}

// P15.6: so it is where the work that ends has the smaller file.
func TestWorkOrderByFile(t *testing.T) {
	s := opened(30, 0)
	s.Tree = append(s.Tree, api.Inode{Id: 3, Parent: 1, Name: "b", Size: 5})
	s.Locks = append(s.Locks, api.Lock{File: 3, Epoch: 2, Fenced: true, Cut: 5, Used: 2, Holders: []api.Holder{{Client: dan, Mode: 2}}})
	s.Next = 4
	s.Works = []api.Work{
		{File: 2, Client: ann, Life: 1, Seq: 5, Code: 23, Off: 30, Len: 1},
		{File: 3, Client: bob, Life: 1, Seq: 5, Code: 23, Off: 5, Len: 1},
	}
	b := startAt(t, s, 2, 64)
	b.ticks(calling(dan, 3, 2), answering(asking(ann, 1, 5, giveOf(0, 0, 0)), api.Op{}))
}

// P15.4, P15.6: while there is a work of a file nobody is granted anything of it, and it is neither cut nor removed; behind it all goes on.
func TestFileOfWork(t *testing.T) {
	b := startAt(t, opened(30, 0), 1, 64)
	p := b.works(ann, takeOf(0, 0, "ab"), sending(1, 1, 1, 0, writeTo(2, 5, 0, "ab")))
	held := b.lock(2)
	b.fails(bob, getOf(0, 1), api.ErrDelay)
	b.fails(cat, getOf(0, 2), api.ErrDelay)
	b.fails(dan, sizeTo(0, 3), api.ErrDelay)
	b.fails(bob, giveOf(0, 0, 1), api.ErrDelay)
	b.fails(bob, removeOf("/a"), api.ErrBusy)
	b.fails(bob, grewOf(2, 5, 100), api.ErrRevoked)
	b.does(bob, returnOf(2, 5))
	b.does(bob, closeOf(0))
	b.locked(held)
	b.replies(1, "", sending(1, 1, 2, 0, commitOf(2, 5)))
	b.replies(1, "", answering(p, api.Op{Len: 2}))
	// Bob is first still, though he can't ask any more.
	b.fails(cat, getOf(0, 2), api.ErrDelay)
	b.locked(behindWork(30))
}
