package dserver

import (
	"math"
	"slices"
	"strings"
	"testing"

	"lamella/api"
	"lamella/proto"
)

// roomy is a new server with room for many pages, that knows the epoch 3 of file 7 and the epoch 1 of file 8.
func roomy(t *testing.T) *bench {
	t.Helper()
	b := startNew(t, 41+200)
	b.does(fenceOf(7, 3, 0), fenceOf(8, 1, 0))
	return b
}

// Which packets are answered, and with what.

// P13.2: packets that are not valid, or not for this server, have no reply, change nothing, and are not counted.
func TestPacketsWithoutReply(t *testing.T) {
	b := roomy(t)
	other := func(change func(p *api.Packet)) {
		t.Helper()
		p := b.packet(client, 1, writeTo(7, 3, 0, "lost"))
		change(&p)
		b.unchanged("no request", func() { b.silent(p) }, 7, 8)
	}
	for _, kind := range []int{math.MinInt, -1, 0, api.PackReply, api.PackCall, 4, 1<<32 + 1} {
		other(func(p *api.Packet) { p.Kind = kind })
	}
	other(func(p *api.Packet) { p.Kind, p.Op.Err = api.PackReply, api.ErrArg })
	other(func(p *api.Packet) { p.Kind, p.Op.Code = api.PackCall, api.OpRecall })
	for _, at := range []int{math.MinInt, -1, api.MaxNode + 1, 1<<32 + client, 1<<32 + node} {
		other(func(p *api.Packet) { p.From = at })
		other(func(p *api.Packet) { p.To = at })
	}
	for _, to := range []int{0, node - 1, node + 1, client, api.MaxNode} {
		other(func(p *api.Packet) { p.To = to })
	}
	codes := []int{math.MinInt, -1, 0, 1<<32 + 1, math.MaxInt}
	for code := api.OpFree + 1; code < 40; code++ {
		codes = append(codes, code)
	}
	for _, code := range codes {
		other(func(p *api.Packet) { p.Op.Code = code })
		other(func(p *api.Packet) { p.Op.Code, p.From = code, 0 })
		other(func(p *api.Packet) { p.Op.Code, p.Asked = code, 99 })
	}
	for _, e := range []api.Errno{-1, api.ErrArg, api.ErrBoot, api.ErrSpoilt, 26} {
		other(func(p *api.Packet) { p.Op.Err = e })
	}
	other(func(p *api.Packet) { p.Op.Path = strings.Repeat("/", api.MaxPath+1) })
	other(func(p *api.Packet) { p.Op.Other = strings.Repeat("/", api.MaxPath+1) })
	other(func(p *api.Packet) { p.Op.Data = strings.Repeat("d", api.MaxData+1) })
	other(func(p *api.Packet) { *p = api.Packet{} })
	b.asks(client, writeTo(7, 3, 0, "new"), api.OK)
	b.has(7, 3, pagesOf(put{0, "new"}), nil)
}

// P13.2: each code of the chapter is answered, and those beside it are not.
func TestCodes(t *testing.T) {
	b := roomy(t)
	for code := -3; code < 40; code++ {
		p := b.packet(0, b.seqs[0]+1, api.Op{Code: code, File: 7, Epoch: 3})
		if code < api.OpWrite || code > api.OpFree {
			b.silent(p)
			continue
		}
		b.seqs[0]++
		b.replied(p, b.replyTo(p, "", api.OK))
	}
}

// P13.2, P13.3: a reply has what the chapter names of the request, the server's numbers, and nothing else.
func TestReplies(t *testing.T) {
	for _, boot := range []uint32{1, 2, 0x01020304, top} {
		for _, from := range []int{0, 1, node, client, api.MaxNode} {
			for i, life := range []uint32{1, 7, 1 << 31, top} {
				b := startNew(t, 41+200, append(fileRows(9, 5, put{0, "seen"}), bootRow(boot-1))...)
				for code := api.OpWrite; code <= api.OpFree; code++ {
					p := api.Packet{
						Kind: api.PackAsk, From: from, To: node, Life: life, Seq: uint32(code), Asked: boot, Boot: uint32(i),
						Op: api.Op{
							Code: code, File: 9, Epoch: 5, Off: 1, Len: 2, Size: 3, Mode: 4, Deny: 5, Handle: 6,
							Path: strings.Repeat("p", api.MaxPath), Other: strings.Repeat("o", api.MaxPath), Data: strings.Repeat("d", api.MaxData),
						},
					}
					want := api.Packet{
						Kind: api.PackReply, From: node, To: from, Life: life, Seq: uint32(code), Asked: boot, Boot: boot,
						Op: api.Op{Code: code, File: 9},
					}
					switch {
					case code == api.OpRead:
						want.Op.Data = "dd"
					case code >= api.OpFence && from != 0:
						want.Op.Err = api.ErrArg
					}
					b.replied(p, want)
					if !proto.Right(want) {
						t.Errorf("%+v is no packet", want)
					}
				}
			}
		}
	}
}

// requests are one of each code, of all of which some do something to the file 7 in the epoch 3.
func requests() []api.Op {
	return []api.Op{writeTo(7, 3, 0, "x"), readFrom(7, 3, 0, 1), commitOf(7, 3), fenceOf(7, 4, 1), freeOf(7)}
}

// P13.2: a request for another boot is ErrBoot, whatever it is and whichever number it has; it is not executed, not judged and not kept.
func TestAnotherBoot(t *testing.T) {
	b := startNew(t, 41+200, append(fileRows(7, 3, put{0, "abc"}), bootRow(4))...)
	b.asks(client, writeTo(7, 3, 1, "B"), api.OK)
	last := b.next(client, readFrom(7, 3, 0, 3))
	told := b.replyTo(last, "aBc", api.OK)
	b.replied(last, told)
	for _, asked := range []uint32{0, 1, 4, 6, 1 << 31, 5 << 8, 5 + 1<<31, top} {
		for _, from := range []int{0, node, client, 18} {
			for _, o := range append(requests(), writeTo(6, 1, 0, ""), writeTo(7, 3, 2000, ""), fenceOf(7, 0, 0)) {
				for _, life := range []uint32{0, 1, 2, top} {
					for _, seq := range []uint32{0, 1, 2, 3, 4, top} {
						p := b.packet(from, seq, o)
						p.Life, p.Asked = life, asked
						b.replied(p, b.replyTo(p, "", api.ErrBoot))
					}
				}
			}
		}
	}
	b.has(7, 3, pagesOf(put{0, "aBc"}), pagesOf(put{0, "abc"}))
	b.replied(last, told)
	b.reads(7, 3, 0, "aBc")
	b.asks(18, writeTo(7, 3, 0, "A"), api.OK)
	b.does(fenceOf(7, 4, 2))
	b.stable(7, 4, pagesOf(put{0, "AB"}))
}

// Each request once.

// judged is what a request is behind one of this life and number: a reading of layer 8. Nothing was executed if done is 0.
func judged(life, done, newLife, seq uint32) string {
	switch {
	case newLife == 0 || seq == 0 || newLife < life:
		return "old"
	case newLife > life && seq == 1:
		return "new"
	case newLife > life:
		return "early"
	case seq == done:
		return "again"
	case seq < done:
		return "old"
	case seq == done+1:
		return "new"
	}
	return "early"
}

// P13.2, P13.7: behind each request, each other one is done, told again or passed over as layer 8 says.
func TestJudgedRequests(t *testing.T) {
	seen := map[string]int{}
	for _, life := range []uint32{0, 1, 2, 5, top - 1, top} {
		for done := range uint32(4) {
			if (life == 0) != (done == 0) {
				continue
			}
			for _, newLife := range []uint32{0, 1, 2, 3, 5, 6, 1 << 31, top - 1, top} {
				for _, seq := range []uint32{0, 1, 2, 3, 4, 5, 1 << 31, top - 1, top} {
					seen[judged(life, done, newLife, seq)]++
					judge(t, life, done, newLife, seq)
				}
			}
		}
	}
	for _, what := range []string{"new", "again", "old", "early"} {
		if seen[what] < 10 {
			t.Errorf("%s was seen %d times", what, seen[what])
		}
	}
}

// judge sends some requests of a life, and then another one.
func judge(t *testing.T, life, done, newLife, seq uint32) {
	t.Helper()
	b := roomy(t)
	var last api.Packet
	for i := range done {
		last = b.packet(client, i+1, writeTo(7, 3, i, "abcd"[i:i+1]))
		last.Life = life
		b.replied(last, b.replyTo(last, "", api.OK))
	}
	was := b.s.Object(7)
	p := b.packet(client, seq, readFrom(7, 3, 0, 4))
	p.Life = newLife
	p.Op.Code, p.Op.Data = api.OpWrite, "new"
	switch judged(life, done, newLife, seq) {
	case "new":
		b.replied(p, b.replyTo(p, "", api.OK))
		was = pagesOf(put{0, "abc"[:done]}, put{0, "new"})
	case "again":
		b.replied(p, b.replyTo(last, "", api.OK))
	default:
		b.silent(p)
	}
	b.has(7, 3, was, nil)
}

// P13.2: what is told again is the reply as it was, whatever has happened since, and whatever the doubled request asks.
func TestToldAgain(t *testing.T) {
	b := roomy(t)
	b.asks(client, writeTo(7, 3, 0, "abc"), api.OK)
	p := b.next(client, readFrom(7, 3, 0, 3))
	told := b.replyTo(p, "abc", api.OK)
	b.replied(p, told)
	b.asks(18, writeTo(7, 3, 0, "xyz"), api.OK)
	b.replied(p, told)
	b.does(fenceOf(7, 4, 0))
	b.replied(p, told)
	b.does(freeOf(7))
	for _, o := range append(requests(), readFrom(8, 1, 5, 7), readFrom(7, 0, 0, 0)) {
		q := p
		q.Op = o
		b.unchanged("again", func() { b.replied(q, told) }, 7, 8)
	}
	p = b.next(client, writeTo(7, 3, 0, "late"))
	told = b.replyTo(p, "", api.ErrEpoch)
	b.replied(p, told)
	b.does(fenceOf(7, 3, 0))
	b.replied(p, told)
	b.stable(7, 3, nil)
	b.asks(client, writeTo(7, 3, 0, "now"), api.OK)
	b.has(7, 3, pagesOf(put{0, "now"}), nil)
}

// P13.2, P13.7: each code's request is executed once, though it comes again: what was done in between by others stays.
func TestExecutedOnce(t *testing.T) {
	b := roomy(t)
	twice := func(from int, o api.Op, want api.Errno, between api.Op) {
		t.Helper()
		p := b.next(from, o)
		b.replied(p, b.replyTo(p, "", want))
		other := 0
		if from == 0 {
			other = client
		}
		b.asks(other, between, api.OK)
		b.unchanged("again", func() { b.replied(p, b.replyTo(p, "", want)) }, 7)
	}
	twice(client, writeTo(7, 3, 0, "abc"), api.OK, writeTo(7, 3, 1, "X"))
	b.has(7, 3, pagesOf(put{0, "aXc"}), nil)
	twice(client, commitOf(7, 3), api.OK, writeTo(7, 3, 2, "Y"))
	b.has(7, 3, pagesOf(put{0, "aXY"}), pagesOf(put{0, "aXc"}))
	twice(0, fenceOf(7, 4, 3), api.OK, writeTo(7, 4, 5, "Z"))
	b.has(7, 4, pagesOf(put{0, "aXY"}, put{5, "Z"}), pagesOf(put{0, "aXY"}))
	twice(client, fenceOf(7, 9, 3), api.ErrArg, freeOf(7))
	b.stable(7, 0, nil)
	p := b.next(0, freeOf(8))
	b.replied(p, b.replyTo(p, "", api.OK))
	b.does(fenceOf(7, 1, 0))
	b.silent(p)
	b.stable(7, 1, nil)
}

// P13.2: each sender has a seat of its own, the server's own number and 0 too.
func TestSendersApart(t *testing.T) {
	b := roomy(t)
	b.seqs[0] = 2
	last := make([]api.Packet, api.MaxNode+1)
	for seq := range uint32(3) {
		for from := range api.MaxNode + 1 {
			last[from] = b.next(from, writeTo(7, 3, uint32(from), string([]byte{byte(from), byte(seq)})))
			b.replied(last[from], b.replyTo(last[from], "", api.OK))
		}
		for from, p := range last {
			b.unchanged("again", func() { b.replied(p, b.replyTo(p, "", api.OK)) }, 7)
			p.Seq += 2
			b.unchanged("early", func() { b.silent(p) }, 7)
			p.Seq -= 3
			if from != 0 || seq > 0 {
				b.unchanged("old", func() { b.silent(p) }, 7)
			}
		}
	}
	var want string
	for from := range api.MaxNode + 1 {
		want += string([]byte{byte(from)})
	}
	b.has(7, 3, pagesOf(put{0, want + "\x02"}), nil)
}

// P13.2: of an elder life nothing is done any more; a new one begins at 1.
func TestLives(t *testing.T) {
	b := roomy(t)
	of := func(life, seq uint32, data string) api.Packet {
		p := b.packet(client, seq, writeTo(7, 3, 0, data))
		p.Life = life
		return p
	}
	done := func(p api.Packet) { t.Helper(); b.replied(p, b.replyTo(p, "", api.OK)) }
	done(of(2, 1, "a"))
	done(of(2, 2, "b"))
	b.silent(of(1, 1, "c"))
	b.silent(of(1, 3, "c"))
	b.silent(of(3, 2, "c"))
	b.silent(of(3, 3, "c"))
	done(of(2, 3, "d"))
	done(of(3, 1, "e"))
	b.silent(of(2, 4, "f"))
	b.silent(of(2, 3, "f"))
	b.silent(of(2, 1, "f"))
	b.has(7, 3, pagesOf(put{0, "e"}), nil)
	done(of(3, 2, "g"))
	done(of(top, 1, "h"))
	b.silent(of(3, 3, "i"))
	b.has(7, 3, pagesOf(put{0, "h"}), nil)
}

// P13.2: seats are lost with a restart: what was done ahead of it is done again if it is asked for the new boot, and not if for the old one.
func TestSeatsAreLost(t *testing.T) {
	b := roomy(t)
	p := b.next(client, writeTo(7, 3, 0, "a"))
	b.replied(p, b.replyTo(p, "", api.OK))
	b.asks(client, commitOf(7, 3), api.OK)
	b = start(t, b.d)
	b.replied(p, b.replyTo(p, "", api.ErrBoot))
	p.Asked, p.Seq = 2, 2
	b.silent(p)
	p.Seq, p.Op.Data = 1, "b"
	b.replied(p, b.replyTo(p, "", api.OK))
	b.has(7, 3, pagesOf(put{0, "b"}), pagesOf(put{0, "a"}))
}

// Writing and reading.

// P13.3: what is written is there, and what else is there stays; it is not stable till it is committed.
func TestWrite(t *testing.T) {
	b := roomy(t)
	var want [api.MaxFile]byte
	var sure []api.Page
	for i, x := range []put{
		{0, "a"}, {31, "b"}, {32, "c"}, {30, "defg"}, {1023, "h"}, {1000, mixed(5, 24)}, {992, mixed(6, 32)}, {896, mixed(7, 128)},
		{100, mixed(8, 128)}, {100, ""}, {0, ""}, {1024, ""}, {64, mixed(9, 64)}, {64, zeros(32)}, {95, "\x00"}, {96, zeros(128)}, {1, "z"}, {500, mixed(1, 1)},
	} {
		b.asks(client, writeTo(7, 3, uint32(x.off), x.data), api.OK)
		copy(want[x.off:], x.data)
		b.has(7, 3, pagesIn(want), sure)
		b.stable(8, 1, nil)
		for off := 0; off < api.MaxFile; off += api.MaxData {
			b.reads(7, 3, uint32(off), string(want[off:off+api.MaxData]))
		}
		if i%4 == 3 {
			b.asks(client, commitOf(7, 3), api.OK)
			sure = pagesIn(want)
			b.has(7, 3, sure, sure)
		}
	}
}

// P13.3: a write, a read and a commit are ErrEpoch for a file without an epoch, and with another epoch than the file's; nothing is done.
func TestOtherEpochs(t *testing.T) {
	b := startNew(t, 41+100, fileRows(7, 3, put{0, "abc"})...)
	b.does(fenceOf(1, top, 0), fenceOf(2, 1<<31, 0), fenceOf(7<<8, 9, 0))
	b.asks(client, writeTo(7, 3, 1, "B"), api.OK)
	files := []uint32{7, 1, 2, 7 << 8, 8, 0, top, 9}
	for file, epochs := range map[uint32][]uint32{
		7: {0, 1, 2, 4, 5, 3 << 8, 3 << 24, 3 + 1<<31, 1 << 31, 9, top}, 1: {0, 1, top - 1, 1<<31 - 1}, 2: {0, 1, top, 1<<31 - 1, 1<<31 + 1}, 7 << 8: {0, 3, 8, 10},
		8: {0, 1, 3, top}, 0: {0, 1, 3, top}, top: {0, 1, 3, top}, 9: {0, 3, 9}, 7 << 24: {0, 3, 9},
	} {
		for _, epoch := range epochs {
			for _, o := range []api.Op{
				writeTo(file, epoch, 0, "x"), writeTo(file, epoch, 0, ""), readFrom(file, epoch, 0, 1), readFrom(file, epoch, 0, 0), commitOf(file, epoch),
			} {
				for _, from := range []int{client, 0} {
					b.unchanged("another epoch", func() { b.asks(from, o, api.ErrEpoch) }, files...)
				}
			}
		}
	}
	b.reads(7, 3, 0, "aBc")
}

// P13.3: a row of the epoch 0 is an epoch, though no fence makes it.
func TestTheEpoch0(t *testing.T) {
	b := startNew(t, 41+100, epochRow(7, 0))
	b.asks(client, writeTo(7, 1, 0, "x"), api.ErrEpoch)
	b.asks(client, writeTo(8, 0, 0, "x"), api.ErrEpoch)
	b.asks(client, writeTo(7, 0, 0, "a"), api.OK)
	b.reads(7, 0, 0, "a")
	b.asks(client, commitOf(7, 0), api.OK)
	b.stable(7, 0, pagesOf(put{0, "a"}))
	b.asks(0, fenceOf(7, 0, 0), api.ErrEpoch)
	b.does(fenceOf(7, 1, 1))
	b.asks(client, writeTo(7, 0, 0, "x"), api.ErrEpoch)
	b.stable(7, 1, pagesOf(put{0, "a"}))
}

// P13.3: an object has MaxFile bytes: what reaches behind them is ErrBig, also where the sum would wrap round.
func TestWriteBig(t *testing.T) {
	for n := range api.MaxData + 1 {
		b := roomy(t)
		data := mixed(n, n)
		b.asks(client, writeTo(7, 3, uint32(api.MaxFile-n), data), api.OK)
		o := pagesOf(put{api.MaxFile - n, data})
		b.has(7, 3, o, nil)
		offs := []uint32{uint32(api.MaxFile - n + 1), uint32(api.MaxFile - n + 2), api.MaxFile + 1, 2000, 1 << 31, 1<<31 + 1, top - 1023, top}
		for i := range uint32(4) {
			// Here the sum wraps round, or nearly so.
			offs = append(offs, top-uint32(n)-1+i)
		}
		for _, off := range offs {
			if off > uint32(api.MaxFile-n) {
				b.unchanged("too big", func() { b.asks(client, writeTo(7, 3, off, data), api.ErrBig) }, 7)
			}
		}
	}
}

// P13.3: reads at the edges of an object and of a packet; what reaches behind one of them is ErrBig.
func TestRead(t *testing.T) {
	body := mixed(7, api.MaxFile)
	b := startNew(t, 41+100, fileRows(7, 3, put{0, body})...)
	for _, off := range []uint32{0, 1, 31, 32, 33, 895, 896, 897, 1000, 1022, 1023, 1024} {
		for _, n := range []uint32{0, 1, 2, 31, 32, 33, 64, 127, 128} {
			if off+n <= api.MaxFile {
				b.unchanged("read", func() { b.reads(7, 3, off, body[off:off+n]) }, 7)
			} else {
				b.unchanged("read", func() { b.asks(client, readFrom(7, 3, off, n), api.ErrBig) }, 7)
			}
		}
		for _, n := range []uint32{129, 130, 256, 1024 - off, 1023, 1024, 1025, 1 << 31, 1<<31 + 1, 1<<31 + 64, top, top - off, top - off + 1, top - off + 2, top - off + 65} {
			if n > api.MaxData {
				b.unchanged("read", func() { b.asks(client, readFrom(7, 3, off, n), api.ErrBig) }, 7)
			}
		}
	}
	for _, off := range []uint32{1025, 1026, 2048, 1 << 31, top - 128, top - 127, top - 1, top} {
		for _, n := range []uint32{0, 1, 2, 127, 128, 129, top} {
			b.unchanged("read", func() { b.asks(client, readFrom(7, 3, off, n), api.ErrBig) }, 7)
		}
	}
}

// P13.3: an object without a page is all zero.
func TestReadOfNothing(t *testing.T) {
	b := roomy(t)
	b.reads(7, 3, 0, zeros(128))
	b.reads(7, 3, 1000, zeros(24))
	b.reads(7, 3, 1024, "")
	b.asks(client, writeTo(7, 3, 40, "a"), api.OK)
	b.reads(7, 3, 39, "\x00a\x00")
	b.reads(8, 1, 39, "\x00\x00\x00")
}

// Space.

// P13.3, P13.4: a write may take what room there is, and one page more is ErrFull, with room that is none or less than none, too.
func TestWriteFull(t *testing.T) {
	for _, room := range []int{-39, -1, 0, 1, 2, 3, 4} {
		for pages := 1; pages <= 4; pages++ {
			b := startNew(t, 41+room, epochRow(7, 3))
			b.room(room)
			x := put{992, mixed(9, 32)}
			if pages > 1 {
				x = put{31, mixed(9, 32*(pages-2)+2)}
			}
			o := writeTo(7, 3, uint32(x.off), x.data)
			if pages > room {
				b.unchanged("no room", func() { b.asks(client, o, api.ErrFull) }, 7)
				continue
			}
			b.asks(client, o, api.OK)
			b.has(7, 3, pagesOf(x), nil)
			b.room(room - pages)
			b.asks(client, commitOf(7, 3), api.OK)
			b.stable(7, 3, pagesOf(x))
			b.room(room - pages)
		}
	}
}

// P13.3: where there is no room, a write that wants no new page is done: on pages that are there, or that the rows have, or that another one makes room for, and of zero bytes.
func TestWriteWithoutRoom(t *testing.T) {
	for _, lack := range []int{0, 1, 5} {
		b := startNew(t, 41+3+1, append(strays(lack+1), fileRows(7, 3, put{0, "a"}, put{40, "b"}, put{70, "c"})...)...)
		b.room(-lack)
		body := []put{{0, "a"}, {40, "b"}, {70, "c"}}
		done := func(off int, data string) {
			t.Helper()
			b.asks(client, writeTo(7, 3, uint32(off), data), api.OK)
			body = append(body, put{off, data})
			b.has(7, 3, pagesOf(body...), pagesOf(body[:3]...))
			b.room(-lack)
		}
		refused := func(off int, data string) {
			t.Helper()
			b.unchanged("no room", func() { b.asks(client, writeTo(7, 3, uint32(off), data), api.ErrFull) }, 7)
		}
		done(0, mixed(1, 96))
		done(31, "xy")
		done(64, zeros(128))
		done(500, zeros(128))
		done(300, "")
		refused(96, "d")
		refused(95, "de")
		refused(1023, "d")
		// The rows have the page 2, so that it wants none, though the object has it no more.
		done(64, "again")
		done(0, zeros(96))
		refused(96, "d")
		done(10, mixed(3, 80))
	}
}

// P13.3: a page that makes room within one write counts: its number of pages doesn't rise. A page that the rows have makes none till it is committed.
func TestWriteThatMakesItsOwnRoom(t *testing.T) {
	b := startNew(t, 41+1)
	b.does(fenceOf(7, 3, 0))
	b.asks(client, writeTo(7, 3, 63, "a"), api.OK)
	b.room(0)
	b.asks(client, writeTo(7, 3, 64, "b"), api.ErrFull)
	b.asks(client, writeTo(7, 3, 63, "\x00b"), api.OK)
	b.has(7, 3, pagesOf(put{64, "b"}), nil)
	b.room(0)
	b.asks(client, commitOf(7, 3), api.OK)
	b.asks(client, writeTo(7, 3, 63, "a\x00"), api.ErrFull)
	b.asks(client, writeTo(7, 3, 64, "\x00"), api.OK)
	b.has(7, 3, nil, pagesOf(put{64, "b"}))
	b.room(0)
	b.asks(client, writeTo(7, 3, 63, "a"), api.ErrFull)
	b.asks(client, commitOf(7, 3), api.OK)
	b.room(1)
	b.asks(client, writeTo(7, 3, 63, "a"), api.OK)
	b.room(0)
}

// P13.4: the room is what is free, less MaxNodes, with the rows of epochs, less the pages that are not stable.
func TestRoom(t *testing.T) {
	b := startNew(t, 41+10)
	b.room(10)
	b.does(fenceOf(7, 3, 0), fenceOf(8, 1, 0), fenceOf(9, 1, 0))
	b.room(10)
	b.asks(client, writeTo(7, 3, 0, mixed(1, 64)), api.OK)
	b.room(8)
	b.asks(client, writeTo(8, 1, 0, mixed(1, 65)), api.OK)
	b.room(5)
	b.asks(client, writeTo(8, 1, 0, mixed(2, 96)), api.OK)
	b.room(5)
	b.asks(client, commitOf(8, 1), api.OK)
	b.room(5)
	b.asks(client, writeTo(8, 1, 0, zeros(32)), api.OK)
	b.room(5)
	b.asks(client, writeTo(8, 1, 500, "x"), api.OK)
	b.room(4)
	b.does(fenceOf(8, 2, 501))
	b.room(5)
	b.does(fenceOf(8, 3, 64))
	b.room(7)
	b.does(freeOf(7))
	b.room(9)
	b.does(freeOf(8), freeOf(9), freeOf(10))
	b.room(10)
	for i := range uint32(40) {
		b.does(fenceOf(100+i, 1, 0))
		b.room(10)
	}
	for i := range uint32(10) {
		b.asks(client, writeTo(100+i, 1, 0, "x"), api.OK)
		b.room(9 - int(i))
	}
	for i := range uint32(10) {
		b.asks(client, commitOf(100+i, 1), api.OK)
		b.room(0)
	}
	b.asks(client, writeTo(139, 1, 0, "x"), api.ErrFull)
	b.asks(0, fenceOf(140, 1, 0), api.ErrFull)
	b = start(t, b.d)
	b.room(0)
}

// P13.3: the room that a server has lost with what was not stable is there again behind a restart.
func TestRoomOfALaterServer(t *testing.T) {
	b := startNew(t, 41+5)
	b.does(fenceOf(7, 3, 0))
	b.asks(client, writeTo(7, 3, 0, mixed(1, 128)), api.OK)
	b.room(1)
	b = start(t, b.d)
	b.room(5)
	b.asks(client, writeTo(7, 3, 0, mixed(1, 128)), api.OK)
	b.asks(client, writeTo(7, 3, 128, "x"), api.OK)
	b.room(0)
}

// Committing, fencing and freeing.

// P13.3: a commit makes the whole object stable, and that of no other file; the rows are those of layer 7.
func TestCommit(t *testing.T) {
	b := roomy(t)
	body := mixed(2, api.MaxFile)
	for off := 0; off < api.MaxFile; off += 128 {
		b.asks(client, writeTo(7, 3, uint32(off), body[off:off+128]), api.OK)
	}
	b.asks(client, writeTo(8, 1, 5, "other"), api.OK)
	other := []api.Change{bootRow(1), epochRow(7, 3), epochRow(8, 1)}
	keeps(t, b.d, other...)
	b.asks(client, commitOf(7, 3), api.OK)
	b.stable(7, 3, pagesOf(put{0, body}))
	b.has(8, 1, pagesOf(put{5, "other"}), nil)
	keeps(t, b.d, append(other, pageRows(7, pagesOf(put{0, body}))...)...)
	for off := 0; off < 1000; off += 128 {
		b.asks(client, writeTo(7, 3, uint32(off), zeros(128)), api.OK)
	}
	b.asks(18, writeTo(7, 3, 1000, "end"), api.OK)
	b.asks(18, commitOf(7, 3), api.OK)
	b.stable(7, 3, pagesOf(put{1000, "end"}))
	keeps(t, b.d, append(other, pageRows(7, pagesOf(put{1000, "end"}))...)...)
	b = start(t, b.d)
	b.stable(7, 3, pagesOf(put{1000, "end"}))
	b.stable(8, 1, nil)
}

// P13.3: a commit of what is stable already, or of nothing, is done, and nothing is written.
func TestCommitOfNothing(t *testing.T) {
	b := roomy(t)
	b.unchanged("commit", func() { b.asks(client, commitOf(7, 3), api.OK) }, 7, 8)
	b.asks(client, writeTo(7, 3, 0, "abc"), api.OK)
	b.asks(client, commitOf(7, 3), api.OK)
	for range 2 {
		b.unchanged("commit", func() { b.asks(client, commitOf(7, 3), api.OK) }, 7, 8)
	}
	b.asks(client, writeTo(7, 3, 0, "x"), api.OK)
	b.asks(client, writeTo(7, 3, 0, "a"), api.OK)
	b.asks(client, writeTo(7, 3, 999, "\x00"), api.OK)
	b.unchanged("commit", func() { b.asks(client, commitOf(7, 3), api.OK) }, 7, 8)
	b = start(t, b.d)
	b.unchanged("commit", func() { b.asks(client, commitOf(7, 3), api.OK) }, 7, 8)
}

// P13.3: a greater epoch becomes the file's, and what is in front of the size becomes stable: nothing, a part of a page, all; behind the object's length the size cuts nothing.
func TestFence(t *testing.T) {
	body := mixed(4, 100)
	for _, size := range []uint32{0, 1, 2, 31, 32, 33, 63, 64, 65, 95, 96, 97, 99, 100, 101, 128, 1023, 1024, 1025, 1 << 16, 1 << 31, 1<<31 + 3, top} {
		for _, epoch := range []uint32{4, 5, 3 << 8, 1 << 31, top} {
			for _, committed := range []int{0, 40, 100} {
				b := roomy(t)
				b.asks(client, writeTo(7, 3, 0, body[:committed]), api.OK)
				b.asks(client, commitOf(7, 3), api.OK)
				b.asks(client, writeTo(7, 3, 0, body), api.OK)
				b.asks(client, writeTo(8, 1, 0, "other"), api.OK)
				b.does(fenceOf(7, epoch, size))
				o := pagesOf(put{0, body[:min(size, 100)]})
				b.stable(7, epoch, o)
				b.has(8, 1, pagesOf(put{0, "other"}), nil)
				keeps(t, b.d, append(pageRows(7, o), bootRow(1), epochRow(7, epoch), epochRow(8, 1))...)
				b.asks(client, writeTo(7, 3, 0, "late"), api.ErrEpoch)
				b.reads(7, epoch, 0, body[:min(size, 100)]+zeros(100-int(min(size, 100))))
				b = start(t, b.d)
				b.stable(7, epoch, o)
			}
		}
	}
}

// P13.3: the file's own epoch is answered, and nothing happens: nothing is cut, nothing becomes stable.
func TestFenceAgain(t *testing.T) {
	b := roomy(t)
	b.asks(client, writeTo(7, 3, 0, "abc"), api.OK)
	b.asks(client, commitOf(7, 3), api.OK)
	b.asks(client, writeTo(7, 3, 2, "X"), api.OK)
	b.does(fenceOf(9, top, 0), fenceOf(10, 1<<31, 0))
	for _, size := range []uint32{0, 1, 2, 3, 1024, top} {
		for file, epoch := range map[uint32]uint32{7: 3, 8: 1, 9: top, 10: 1 << 31} {
			b.unchanged("fence", func() { b.does(fenceOf(file, epoch, size)) }, 7, 8, 9, 10)
		}
	}
	b.has(7, 3, pagesOf(put{0, "abX"}), pagesOf(put{0, "abc"}))
}

// P13.3: a lesser epoch, and 0, are ErrEpoch, and nothing is done.
func TestFenceBack(t *testing.T) {
	b := roomy(t)
	b.asks(client, writeTo(7, 3, 0, "abc"), api.OK)
	b.does(fenceOf(9, top, 0), fenceOf(10, 1<<31, 0), fenceOf(11, 0x100, 0))
	for file, epochs := range map[uint32][]uint32{7: {0, 1, 2}, 8: {0}, 9: {0, 1, 1 << 31, top - 1}, 10: {0, 1, 1<<31 - 1}, 11: {0, 2, 0xff}, 12: {0}, top: {0}, 0: {0}} {
		for _, epoch := range epochs {
			for _, size := range []uint32{0, 1, top} {
				b.unchanged("fence", func() { b.asks(0, fenceOf(file, epoch, size), api.ErrEpoch) }, 0, 7, 8, 9, 10, 11, 12, top)
			}
		}
	}
}

// P13.3: a file that nobody knows is known behind its first fence, at whichever epoch; pages that it had without an epoch are cut.
func TestFenceOfANewFile(t *testing.T) {
	for _, file := range []uint32{0, 1, 7, 1 << 31, top} {
		for _, epoch := range []uint32{1, 2, 1 << 31, top} {
			b := startNew(t, 100, pageRows(5, pagesOf(put{30, "abcd"}))...)
			b.does(fenceOf(file, epoch, 0))
			b.stable(file, epoch, nil)
			b.asks(client, writeTo(5, 0, 0, "x"), api.ErrEpoch)
			b.does(fenceOf(5, epoch, 33))
			b.stable(5, epoch, pagesOf(put{30, "abc"}))
			b.asks(client, writeTo(5, epoch, 0, "x"), api.OK)
			b.stable(file, epoch, nil)
			keeps(t, b.d, append(pageRows(5, pagesOf(put{30, "abc"})), bootRow(1), epochRow(5, epoch), epochRow(file, epoch))...)
		}
	}
}

// P13.3: a free takes the object and the epoch away, stable and not, and no other file's; then the file may begin anew at any epoch.
func TestFree(t *testing.T) {
	for _, committed := range []string{"", "abc", mixed(1, 100)} {
		for _, loose := range []string{"", "x", zeros(128), mixed(2, 128)} {
			b := roomy(t)
			b.asks(client, writeTo(7, 3, 0, committed), api.OK)
			b.asks(client, commitOf(7, 3), api.OK)
			b.asks(client, writeTo(7, 3, 0, loose), api.OK)
			b.asks(client, writeTo(8, 1, 0, "other"), api.OK)
			b.does(freeOf(7))
			b.stable(7, 0, nil)
			b.has(8, 1, pagesOf(put{0, "other"}), nil)
			keeps(t, b.d, bootRow(1), epochRow(8, 1))
			for _, epoch := range []uint32{0, 3, 4} {
				b.asks(client, writeTo(7, epoch, 0, "x"), api.ErrEpoch)
				b.asks(client, readFrom(7, epoch, 0, 1), api.ErrEpoch)
				b.asks(client, commitOf(7, epoch), api.ErrEpoch)
			}
			b.does(fenceOf(7, 1, 1024))
			b.stable(7, 1, nil)
			b.reads(7, 1, 0, zeros(128))
			b = start(t, b.d)
			b.stable(7, 1, nil)
			b.stable(8, 1, nil)
		}
	}
}

// P13.3: a free of what nobody knows is done, and nothing is written; pages without an epoch are taken away.
func TestFreeOfNothing(t *testing.T) {
	b := startNew(t, 100, append(pageRows(5, pagesOf(put{30, "abcd"})), epochRow(6, 0))...)
	for _, file := range []uint32{0, 1, 7, 5 << 8, top} {
		b.unchanged("free", func() { b.does(freeOf(file)) }, 0, 1, 5, 6, 7)
	}
	b.does(freeOf(5), freeOf(6))
	keeps(t, b.d, bootRow(1))
	b.unchanged("free", func() { b.does(freeOf(5), freeOf(6)) }, 5, 6)
}

// P13.3: senders other than 0 can't fence and free: ErrArg, and nothing is done.
func TestFenceAndFreeOfOthers(t *testing.T) {
	b := roomy(t)
	b.asks(client, writeTo(7, 3, 0, "abc"), api.OK)
	b.asks(client, commitOf(7, 3), api.OK)
	b.asks(client, writeTo(7, 3, 1, "X"), api.OK)
	for from := 1; from <= api.MaxNode; from++ {
		for _, o := range []api.Op{fenceOf(7, 4, 0), fenceOf(7, 3, 0), fenceOf(9, 1, 0), freeOf(7), freeOf(9)} {
			b.unchanged("not 0", func() { b.asks(from, o, api.ErrArg) }, 7, 8, 9)
		}
	}
	b.does(fenceOf(7, 4, 1), freeOf(8))
	b.stable(7, 4, pagesOf(put{0, "a"}))
	b.stable(8, 0, nil)
}

// P13.3: the metadata server may write, read and commit as any other sender.
func TestRequestsOf0(t *testing.T) {
	b := roomy(t)
	b.does(writeTo(7, 3, 0, "abc"), commitOf(7, 3))
	p := b.next(0, readFrom(7, 3, 1, 2))
	b.replied(p, b.replyTo(p, "bc", api.OK))
	b.stable(7, 3, pagesOf(put{0, "abc"}))
}

// Commits of rows that are refused.

// P13.3: where the rows have no space for a commit, that is told, and nothing is changed; what wants no space is done, and with space the same is done later.
func TestRefusedForSpace(t *testing.T) {
	// With 46 epochs there is room for 6 pages more than the rows have space for.
	b := startNew(t, 1+46+1+1+1, append(epochRows(45), append(fileRows(7, 3, put{100, "old"}), strays(1)...)...)...)
	b.room(1 - 40 + 46)
	b.asks(client, writeTo(7, 3, 0, mixed(1, 96)), api.OK)
	o := []put{{100, "old"}, {0, mixed(1, 96)}}
	for range 2 {
		b.unchanged("commit", func() { b.asks(client, commitOf(7, 3), api.ErrFull) }, 7)
		b.unchanged("fence", func() { b.asks(0, fenceOf(7, 4, 1024), api.ErrFull) }, 7)
		b.unchanged("fence", func() { b.asks(0, fenceOf(7, 4, 65), api.ErrFull) }, 7)
		b.has(7, 3, pagesOf(o...), pagesOf(o[0]))
	}
	b.reads(7, 3, 0, mixed(1, 96)+zeros(4)+"old")
	b.does(fenceOf(4, 1, 0))
	b.room(0 - 40 + 47 - 3)
	b.unchanged("a new file", func() { b.asks(0, fenceOf(5, 1, 0), api.ErrFull) }, 5, 7)
	b.does(fenceOf(5000, 2, 0), freeOf(5001), freeOf(5002), freeOf(5003))
	b.asks(client, commitOf(7, 3), api.OK)
	b.stable(7, 3, pagesOf(o...))
	b.unchanged("a new file", func() { b.asks(0, fenceOf(5, 1, 0), api.ErrFull) }, 5, 7)
	b.does(freeOf(5004), fenceOf(5, 1, 0))
	b.stable(5, 1, nil)
}

// P13.3: a fence may cut away what there is no space for, and a page that goes makes space for another one.
func TestFenceThatNeedsNoSpace(t *testing.T) {
	for _, size := range []uint32{0, 1, 31, 32, 33, 64, 65, 96, 101, 1024, top} {
		b := startNew(t, 1+46+1, append(epochRows(45), fileRows(7, 3, put{100, "old"})...)...)
		b.room(0 - 40 + 46)
		b.asks(client, writeTo(7, 3, 0, mixed(1, 65)), api.OK)
		b.asks(client, writeTo(7, 3, 100, zeros(3)), api.OK)
		if size > 32 {
			b.unchanged("no space", func() { b.asks(0, fenceOf(7, 4, size), api.ErrFull) }, 7)
			continue
		}
		b.does(fenceOf(7, 4, size))
		b.stable(7, 4, pagesOf(put{0, mixed(1, int(size))}))
	}
}

// P13.3: where the log has done its last commit, each request that would change rows is ErrMany, and nothing is changed; the others are done. The server is not down.
func TestRefusedByAWornLog(t *testing.T) {
	d := laid(t, 100, append(fileRows(7, 3, put{0, "abc"}), epochRow(8, 1))...)
	worn(t, d, 1)
	b := start(t, d)
	for _, from := range []int{client, 18} {
		b.asks(from, writeTo(7, 3, 1, "X"), api.OK)
		b.unchanged("commit", func() { b.asks(from, commitOf(7, 3), api.ErrMany) }, 7, 8)
		b.unchanged("fence", func() { b.asks(0, fenceOf(7, 4, 0), api.ErrMany) }, 7, 8)
		b.unchanged("fence", func() { b.asks(0, fenceOf(9, 1, 0), api.ErrMany) }, 7, 8, 9)
		b.unchanged("free", func() { b.asks(0, freeOf(7), api.ErrMany) }, 7, 8)
		b.unchanged("commit", func() { b.asks(from, commitOf(8, 1), api.OK) }, 7, 8)
		b.unchanged("fence", func() { b.asks(0, fenceOf(7, 3, 0), api.OK) }, 7, 8)
		b.unchanged("free", func() { b.asks(0, freeOf(9), api.OK) }, 7, 8)
		b.reads(7, 3, 0, "aXc")
		b.has(7, 3, pagesOf(put{0, "aXc"}), pagesOf(put{0, "abc"}))
	}
}

// P13.2: a refusal is a reply as any other: it is told again, though the request could be done now.
func TestRefusedAndToldAgain(t *testing.T) {
	b := startNew(t, 1+46, epochRows(45)...)
	b.does(fenceOf(7, 1, 0))
	p := b.next(0, fenceOf(8, 1, 0))
	b.replied(p, b.replyTo(p, "", api.ErrFull))
	b.does(freeOf(7))
	b.silent(p)
	p = b.next(client, writeTo(5001, 1, 0, mixed(1, 64)))
	b.replied(p, b.replyTo(p, "", api.OK))
	p = b.next(client, commitOf(5001, 1))
	b.replied(p, b.replyTo(p, "", api.ErrFull))
	b.does(freeOf(5002))
	b.replied(p, b.replyTo(p, "", api.ErrFull))
	b.has(5001, 1, pagesOf(put{0, mixed(1, 64)}), nil)
	b.asks(client, commitOf(5001, 1), api.OK)
	b.stable(5001, 1, pagesOf(put{0, mixed(1, 64)}))
}

// Two errors at once.

// P13.3: of two errors of a request, that which the chapter tells first is told.
func TestTwoErrors(t *testing.T) {
	worn := func(d *bench) *bench { worn(t, d.d, 1); return start(t, d.d) }
	// Of the first one the room is full, of the second one the rows are, and the log of the third and the fourth one is worn.
	room := startNew(t, 42, fileRows(7, 3, put{0, "a"})...)
	full := startNew(t, 1+46+1, append(epochRows(45), fileRows(7, 3, put{0, "a"})...)...)
	full.asks(client, writeTo(7, 3, 40, "b"), api.OK)
	tired := worn(startNew(t, 60, fileRows(7, 3, put{0, "a"})...))
	tired.asks(client, writeTo(7, 3, 40, "b"), api.OK)
	both := worn(startNew(t, 1+46+1, append(epochRows(45), fileRows(7, 3, put{0, "a"})...)...))
	both.asks(client, writeTo(7, 3, 40, "b"), api.OK)
	for _, x := range []struct {
		what string
		b    *bench
		from int
		o    api.Op
		want api.Errno
	}{
		{"write: epoch, big", room, client, writeTo(7, 2, 1024, "x"), api.ErrEpoch},
		{"write: no epoch, big", room, client, writeTo(8, 3, top, "x"), api.ErrEpoch},
		{"write: epoch, full", room, client, writeTo(7, 4, 40, "x"), api.ErrEpoch},
		{"write: big, full", room, client, writeTo(7, 3, 1000, mixed(1, 25)), api.ErrBig},
		{"write: epoch, big, full", room, client, writeTo(7, 0, 1000, mixed(1, 25)), api.ErrEpoch},
		{"write: full", room, client, writeTo(7, 3, 1000, mixed(1, 24)), api.ErrFull},
		{"read: epoch, behind the end", room, client, readFrom(7, 2, 1024, 1), api.ErrEpoch},
		{"read: no epoch, behind the end", room, client, readFrom(8, 0, top, 1), api.ErrEpoch},
		{"read: epoch, too long", room, client, readFrom(7, 4, 0, 129), api.ErrEpoch},
		{"read: behind the end and too long", room, client, readFrom(7, 3, 1024, 129), api.ErrBig},
		{"commit: epoch, full", full, client, commitOf(7, 2), api.ErrEpoch},
		{"commit: epoch, worn", tired, client, commitOf(7, 4), api.ErrEpoch},
		{"commit: full, worn", both, client, commitOf(7, 3), api.ErrFull},
		{"fence: not 0, epoch 0", room, client, fenceOf(7, 0, 0), api.ErrArg},
		{"fence: not 0, a lesser epoch", room, 18, fenceOf(7, 2, 0), api.ErrArg},
		{"fence: not 0, full", full, 1, fenceOf(7, 4, top), api.ErrArg},
		{"fence: not 0, worn", tired, 1, fenceOf(7, 4, top), api.ErrArg},
		{"fence: a lesser epoch, 0 at that", room, 0, fenceOf(7, 0, 0), api.ErrEpoch},
		{"fence: a lesser epoch, full", full, 0, fenceOf(7, 2, top), api.ErrEpoch},
		{"fence: epoch 0, full", full, 0, fenceOf(8, 0, top), api.ErrEpoch},
		{"fence: a lesser epoch, worn", tired, 0, fenceOf(7, 2, top), api.ErrEpoch},
		{"fence: epoch 0, worn", tired, 0, fenceOf(8, 0, top), api.ErrEpoch},
		{"fence: full, worn", both, 0, fenceOf(7, 4, top), api.ErrFull},
		{"fence: a new file, full, worn", both, 0, fenceOf(8, 4, top), api.ErrFull},
		{"fence: the cut needs no space, worn", both, 0, fenceOf(7, 4, 0), api.ErrMany},
		{"free: not 0, worn", tired, api.MaxNode, freeOf(7), api.ErrArg},
		{"free: full, worn", both, 0, freeOf(7), api.ErrMany},
	} {
		x.b.unchanged(x.what, func() { x.b.asks(x.from, x.o, x.want) }, 7, 8)
		if t.Failed() {
			t.Fatal(x.what)
		}
	}
}

// P13.2: another boot is told ahead of each error of an operation, and a request that is old or early is passed over ahead of them.
func TestErrorsOfRequestsThatAreNotDone(t *testing.T) {
	b := startNew(t, 42, fileRows(7, 3, put{0, "a"})...)
	b.asks(client, writeTo(7, 3, 0, "b"), api.OK)
	b.asks(client, writeTo(7, 3, 0, "c"), api.OK)
	for _, o := range []api.Op{
		writeTo(7, 2, 0, "x"), writeTo(7, 3, 1024, "x"), writeTo(7, 3, 40, "x"), readFrom(7, 2, 0, 1), readFrom(7, 3, 0, 129), commitOf(8, 3),
		fenceOf(7, 9, 0), fenceOf(7, 0, 0), freeOf(7),
	} {
		p := b.packet(client, 3, o)
		p.Asked = 0
		b.unchanged("another boot", func() { b.replied(p, b.replyTo(p, "", api.ErrBoot)) }, 7, 8)
		for _, seq := range []uint32{0, 1, 4, top} {
			b.unchanged("old or early", func() { b.silent(b.packet(client, seq, o)) }, 7, 8)
		}
	}
}

// P13.1 to P13.4: the chapter's example.
func TestExample(t *testing.T) {
	b := startNew(t, 60)
	if b.s.Boot() != 1 {
		t.Errorf("Boot = %d, want 1", b.s.Boot())
	}
	b.does(fenceOf(7, 1, 0))
	b.asks(client, writeTo(7, 2, 0, "a"), api.ErrEpoch)
	b.asks(client, writeTo(7, 1, 0, "a"), api.OK)
	b.has(7, 1, pagesOf(put{0, "a"}), nil)
	b.asks(client, commitOf(7, 1), api.OK)
	b.stable(7, 1, pagesOf(put{0, "a"}))
}

// Memory.

// over writes over a list, with its spare room.
func over(l []api.Page) {
	l = l[:cap(l)]
	for i := range l {
		l[i] = api.Page{N: 31 - i, Data: "over"}
	}
}

// Common rule 4: pages that are told are new memory, in whichever state the object is: who writes over them changes nothing of the server, nor of other answers.
func TestPagesAreNewMemory(t *testing.T) {
	b := roomy(t)
	x := []put{{0, "abc"}, {100, "def"}, {900, "ghi"}}
	for _, y := range x {
		b.asks(client, writeTo(7, 3, uint32(y.off), y.data), api.OK)
	}
	now, sure := pagesOf(x...), []api.Page(nil)
	tell := func() {
		t.Helper()
		object, stable := b.s.Object(7), b.s.Sure(7)
		for range 3 {
			over(b.s.Object(7))
			over(b.s.Sure(7))
			b.has(7, 3, now, sure)
			b.reads(7, 3, 0, "abc"+zeros(97)+"def")
		}
		if !slices.Equal(object, now) || !slices.Equal(stable, sure) {
			t.Error("an answer has changed")
		}
		over(object)
		if !slices.Equal(stable, sure) {
			t.Error("two answers share memory")
		}
		b.has(7, 3, now, sure)
	}
	tell()
	b.asks(client, commitOf(7, 3), api.OK)
	sure = now
	tell()
	b.asks(client, writeTo(7, 3, 900, zeros(3)), api.OK)
	now = pagesOf(x[:2]...)
	tell()
	object, stable := b.s.Object(7), b.s.Sure(7)
	b.asks(client, writeTo(7, 3, 0, mixed(1, 128)), api.OK)
	b.asks(client, commitOf(7, 3), api.OK)
	b.does(freeOf(7))
	if !slices.Equal(object, now) || !slices.Equal(stable, sure) {
		t.Error("an answer has changed with the server")
	}
	keeps(t, b.d, bootRow(1), epochRow(8, 1))
}

// Common rule 4: a packet is as it was behind a call, and a reply is new: who changes them changes nothing of what is told again.
func TestPacketsAreNotKept(t *testing.T) {
	b := roomy(t)
	b.asks(client, writeTo(7, 3, 0, "abc"), api.OK)
	for _, o := range []api.Op{readFrom(7, 3, 0, 3), writeTo(7, 3, 5, "data"), writeTo(7, 2, 5, "data"), commitOf(7, 3)} {
		p := b.next(client, o)
		q := p
		told, ok := b.s.Handle(p)
		if p != q || !ok {
			t.Errorf("the packet was changed, or %v", ok)
		}
		want := told
		told = api.Packet{Kind: 9, Op: api.Op{Data: "over"}}
		p.Op = api.Op{Code: api.OpRead, Data: "over"}
		b.replied(q, want)
		b.replied(p, want)
	}
}

// Nothing that is done to one server is seen in another one.
func TestServersApart(t *testing.T) {
	b, c := roomy(t), roomy(t)
	b.asks(client, writeTo(7, 3, 0, "abc"), api.OK)
	c.stable(7, 3, nil)
	c.asks(client, writeTo(7, 3, 0, "x"), api.OK)
	b.asks(client, commitOf(7, 3), api.OK)
	b.does(fenceOf(7, 4, 2), freeOf(8))
	c.has(7, 3, pagesOf(put{0, "x"}), nil)
	c.has(8, 1, nil, nil)
	b.stable(7, 4, pagesOf(put{0, "ab"}))
}
