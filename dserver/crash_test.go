package dserver

import (
	"slices"
	"strings"
	"testing"

	"lamella/api"
	"lamella/device"
)

// committed says whether a commit of so many blocks is done behind a crash, if the device had a fuse and the crash keeps this: its mark is settled, or written and kept. The mark is the only unsettled write then.
func committed(blocks, fuse int, keep uint64) bool {
	mark := blocks + 1
	return fuse > mark+1 || fuse == mark+1 && keep&1 == 1
}

// steps are the writes and barriers of a commit of so many blocks.
func steps(blocks int) int { return 2*blocks + 4 }

// subsets are what a crash may keep of n unsettled writes: each subset, or, of many writes, some.
func subsets(n int) []uint64 {
	if n > 5 {
		return []uint64{0, 1, 2, 3, 1 << (n - 1), 0x5555555555555555, 0xaaaaaaaaaaaaaaaa, 0x123456789abcdef, every - 1, every}
	}
	var l []uint64
	for keep := range uint64(1) << n {
		l = append(l, keep)
	}
	return l
}

// fall is a request of which the device dies.
type fall struct {
	what   string
	rows   []api.Change
	ahead  func(b *bench)
	from   int
	o      api.Op
	blocks int
	now    []api.Change
}

// files are those that falls are asked for.
func files() []uint32 { return []uint32{6, 7, 8} }

// falls are requests of each kind that changes rows: how many home blocks they change, and which rows there are behind them, without B.
func falls() []fall {
	const low, high = 6, 8
	other := append(fileRows(low, 9, put{0, "low"}), fileRows(high, 9, put{990, "high"})...)
	with := func(l ...api.Change) []api.Change { return append(l, other...) }
	loose := func(b *bench) {
		b.asks(client, writeTo(low, 9, 200, "not stable"), api.OK)
		b.asks(client, writeTo(high, 9, 990, zeros(9)), api.OK)
	}
	old := with(fileRows(7, 3, put{0, "abc"}, put{32, "def"}, put{64, "ghi"})...)
	changed := func(b *bench) {
		loose(b)
		b.asks(client, writeTo(7, 3, 1, "X"), api.OK)
		b.asks(client, writeTo(7, 3, 32, zeros(32)), api.OK)
		b.asks(client, writeTo(7, 3, 100, mixed(1, 60)), api.OK)
	}
	body := mixed(9, api.MaxFile)
	whole := func(b *bench) {
		for off := 0; off < api.MaxFile; off += 128 {
			b.asks(client, writeTo(7, 3, uint32(off), body[off:off+128]), api.OK)
		}
	}
	return []fall{
		{"a commit of a new page", with(epochRow(7, 3)), func(b *bench) {
			loose(b)
			b.asks(client, writeTo(7, 3, 0, "a"), api.OK)
		}, client, commitOf(7, 3), 1, with(fileRows(7, 3, put{0, "a"})...)},
		{"a commit of a page that goes", with(fileRows(7, 3, put{5, "a"})...), func(b *bench) {
			loose(b)
			b.asks(client, writeTo(7, 3, 5, "\x00"), api.OK)
		}, client, commitOf(7, 3), 1, with(epochRow(7, 3))},
		{"a commit of pages that are new, others, and gone", old, changed, client, commitOf(7, 3), 3,
			with(fileRows(7, 3, put{0, "aXc"}, put{64, "ghi"}, put{100, mixed(1, 60)})...)},
		{"a commit of a whole object", with(epochRow(7, 3)), whole, client, commitOf(7, 3), 32, with(fileRows(7, 3, put{0, body})...)},
		{"a fence of a new file", other, loose, 0, fenceOf(7, 5, 10), 1, with(epochRow(7, 5))},
		{"a fence of a stable object behind its length", old, loose, 0, fenceOf(7, 5, 67), 1, with(fileRows(7, 5, put{0, "abc"}, put{32, "def"}, put{64, "ghi"})...)},
		{"a fence that cuts a stable object", old, loose, 0, fenceOf(7, 5, 34), 3, with(fileRows(7, 5, put{0, "abc"}, put{32, "de"})...)},
		{"a fence that cuts an object that is not stable", old, changed, 0, fenceOf(7, 5, 129), 4,
			with(fileRows(7, 5, put{0, "aXc"}, put{64, "ghi"}, put{100, mixed(1, 29)})...)},
		{"a fence that cuts all", old, changed, 0, fenceOf(7, 5, 0), 4, with(epochRow(7, 5))},
		{"a free of a file", old, changed, 0, freeOf(7), 4, other},
		{"a free of a file without an object", with(epochRow(7, 3)), loose, 0, freeOf(7), 1, other},
		{"a free of a file without an epoch", with(pageRows(7, pagesOf(put{0, mixed(1, 64)}))...), loose, 0, freeOf(7), 2, other},
	}
}

// ready is a server to which the request is sent next.
func (x fall) ready(t *testing.T) (*bench, api.Packet) {
	t.Helper()
	b := startNew(t, 41+40, append([]api.Change{bootRow(0)}, x.rows...)...)
	x.ahead(b)
	return b, b.next(x.from, x.o)
}

// fell sends the request to a server whose device has a fuse, and lets it fall; what it answers are the device and the rows that it must have now, without B.
func (x fall) fell(t *testing.T, fuse int, keep uint64) (*device.Device, []api.Change) {
	t.Helper()
	b, p := x.ready(t)
	was := b.sees(files()...)
	b.d.Fuse(fuse)
	if fuse >= steps(x.blocks) {
		b.replied(p, b.replyTo(p, "", api.OK))
		b.d.Crash(keep)
		return b.d, x.now
	}
	b.silent(p)
	b.down(was, p)
	b.d.Crash(keep)
	b.down(was, p)
	if committed(x.blocks, fuse, keep) {
		return b.d, x.now
	}
	return b.d, x.rows
}

// down fails unless a server is down: it answers no packet, and of itself what it was when it last did something.
func (b *bench) down(was sight, p api.Packet) {
	b.t.Helper()
	before := settled(b.d)
	asked := p
	asked.Asked = 0
	for _, q := range append(b.oneOfEach(), p, asked, api.Packet{}) {
		b.silent(q)
	}
	if !b.s.Down() || !b.sees(files()...).same(was) {
		b.t.Errorf("Down = %v, the server is as %v, was as %v", b.s.Down(), b.sees(files()...), was)
	}
	if !slices.Equal(before, settled(b.d)) {
		b.t.Error("a server that is down writes")
	}
}

// oneOfEach are requests of each code that a server that is up would answer.
func (b *bench) oneOfEach() []api.Packet {
	var l []api.Packet
	for i, o := range requests() {
		l = append(l, b.packet(0, b.seqs[0]+1, o), b.packet(100+i, 1, o))
	}
	return l
}

// begunOn fails unless the server that begins on a device has exactly these rows beside B, all of them stable.
func begunOn(t *testing.T, d *device.Device, want []api.Change, boots ...uint32) {
	t.Helper()
	b := start(t, d)
	keeps(t, d, append([]api.Change{bootRow(b.s.Boot())}, want...)...)
	if !slices.Contains(boots, b.s.Boot()) {
		t.Errorf("Boot = %d, want one of %d", b.s.Boot(), boots)
	}
	for _, f := range files() {
		var epoch uint32
		var body [api.MaxFile]byte
		for _, c := range want {
			switch {
			case c.Key == "E"+number(f):
				epoch = uint32(c.Value[3])
			case strings.HasPrefix(c.Key, "P"+number(f)):
				copy(body[32*int(c.Key[6]):], c.Value)
			}
		}
		b.stable(f, epoch, pagesIn(body))
	}
}

// P13.2, P13.3, P13.5, P13.6: the device dies at each step of each request, and each subset of what is unsettled is kept: there is no reply, the server is down, and a server that begins anew has all that the request did, or nothing of it; what was stable ahead of it is there, and what was not is gone.
func TestDeviceDies(t *testing.T) {
	for _, x := range falls() {
		for fuse := range steps(x.blocks) + 2 {
			b, p := x.ready(t)
			b.d.Fuse(fuse)
			b.s.Handle(p)
			for _, keep := range subsets(b.d.Unsettled()) {
				d, want := x.fell(t, fuse, keep)
				begunOn(t, d, want, 2)
				if t.Failed() {
					t.Fatalf("%s, fuse %d, keep %x", x.what, fuse, keep)
				}
			}
		}
	}
}

// P13.1, P13.6: the device dies again while the next server begins, at each step, and each subset is kept: the one behind it has the same, as if there had been one beginning.
func TestDeviceDiesAgain(t *testing.T) {
	for _, x := range falls() {
		if x.blocks > 3 {
			continue
		}
		for fuse := range steps(x.blocks) + 1 {
			b, p := x.ready(t)
			b.d.Fuse(fuse)
			b.s.Handle(p)
			for _, keep := range subsets(b.d.Unsettled()) {
				x.fallAgain(t, fuse, keep)
			}
		}
	}
}

// fallAgain lets the device die at each step of the Start behind a request's fall.
func (x fall) fallAgain(t *testing.T, fuse int, keep uint64) {
	t.Helper()
	for again := 0; ; again++ {
		d, _ := x.fell(t, fuse, keep)
		d.Fuse(again)
		_, e := Start(d, node)
		if e == api.OK {
			return
		}
		for _, kept := range subsets(d.Unsettled()) {
			d, want := x.fell(t, fuse, keep)
			d.Fuse(again)
			cannotStart(t, "it dies", d, node, api.ErrDead)
			d.Crash(kept)
			begunOn(t, d, want, 2, 3)
			if t.Failed() {
				t.Fatalf("%s, fuse %d, keep %x, again %d, keep %x", x.what, fuse, keep, again, kept)
			}
		}
	}
}

// P13.1: the device dies at each step of a Start: ErrDead and no server; the boot is counted or not, as the log has it, and never twice; all else is there.
func TestStartDies(t *testing.T) {
	rows := fileRows(7, 3, put{0, "abc"}, put{40, "def"})
	// A new device's log has nothing to do anew; that of a device with rows has the last commit's blocks.
	for _, x := range []struct {
		what string
		redo int
		d    func() *device.Device
		want []api.Change
		boot uint32
	}{
		{"a new device", 0, func() *device.Device { return device.New(60) }, nil, 0},
		{"rows without B", 4, func() *device.Device { return laid(t, 20, rows...) }, rows, 0},
		{"rows", 5, func() *device.Device { return laid(t, 20, append([]api.Change{bootRow(200)}, rows...)...) }, rows, 200},
		{"a server's rows", 2, func() *device.Device { b := startNew(t, 20, rows...); return b.d }, rows, 1},
	} {
		for fuse := range x.redo + steps(1) + 1 {
			d := x.d()
			d.Fuse(fuse)
			if s, e := Start(d, node); fuse == x.redo+steps(1) {
				if e != api.OK || s.Boot() != x.boot+1 {
					t.Errorf("%s: Start = %v, %d", x.what, s, e)
				}
				continue
			}
			for _, keep := range subsets(d.Unsettled()) {
				d := x.d()
				d.Fuse(fuse)
				cannotStart(t, x.what, d, node, api.ErrDead)
				d.Crash(keep)
				boot := x.boot + 1
				if committed(1, fuse-x.redo, keep) {
					boot++
				}
				begunOn(t, d, x.want, boot)
				begunOn(t, d, x.want, boot+1)
				if t.Failed() {
					t.Fatalf("%s, fuse %d, keep %x", x.what, fuse, keep)
				}
			}
		}
	}
}

// P13.2: requests that change no rows don't touch the device: they are answered though it is dead, as the server doesn't know it; the first one that would change rows lets it be down.
func TestADeadDeviceIsNotTouched(t *testing.T) {
	for _, last := range []struct {
		from int
		o    api.Op
	}{{client, commitOf(7, 3)}, {0, fenceOf(7, 4, 0)}, {0, fenceOf(9, 1, 0)}, {0, freeOf(7)}} {
		b := roomy(t)
		b.asks(client, writeTo(7, 3, 0, "abc"), api.OK)
		kill(b.d)
		b.asks(client, writeTo(7, 3, 1, "X"), api.OK)
		b.reads(7, 3, 0, "aXc")
		b.asks(client, commitOf(8, 1), api.OK)
		b.does(fenceOf(7, 3, 0), freeOf(9))
		b.asks(0, fenceOf(7, 2, 0), api.ErrEpoch)
		b.asks(client, freeOf(7), api.ErrArg)
		was := b.sees(files()...)
		p := b.next(last.from, last.o)
		b.silent(p)
		b.down(was, p)
		b.d.Crash(every)
		b.down(was, p)
		b = start(t, b.d)
		b.stable(7, 3, nil)
	}
}

// P13.2: errors that are told ahead of a commit are told though the device would die of it.
func TestErrorsOfADeviceThatWouldDie(t *testing.T) {
	b := startNew(t, 1+46+1, append(epochRows(45), fileRows(7, 3, put{0, "a"})...)...)
	b.asks(client, writeTo(7, 3, 40, "b"), api.OK)
	b.d.Fuse(0)
	b.asks(client, commitOf(7, 2), api.ErrEpoch)
	b.asks(client, commitOf(7, 3), api.ErrFull)
	b.asks(client, fenceOf(7, 4, 0), api.ErrArg)
	b.asks(0, fenceOf(7, 2, 0), api.ErrEpoch)
	b.asks(0, fenceOf(7, 4, 1024), api.ErrFull)
	b.asks(0, fenceOf(9, 1, 0), api.ErrFull)
	b.asks(client, freeOf(7), api.ErrArg)
	was := b.sees(files()...)
	if b.d.Dead() || b.s.Down() {
		t.Error("the device was written to")
	}
	p := b.next(0, freeOf(7))
	b.silent(p)
	b.down(was, p)
}

// P13.6: what was stable when a reply was given is there behind each crash, wherever the device dies in what is asked of other files and of the same one, till it is overwritten, cut or freed.
func TestStableStays(t *testing.T) {
	body := []put{{0, "abc"}, {50, mixed(1, 70)}, {1000, "end"}}
	for _, o := range []api.Op{commitOf(8, 1), fenceOf(8, 2, 3), freeOf(8), fenceOf(9, 1, 0), commitOf(7, 3), fenceOf(7, 4, 1024), fenceOf(7, 9, 1003)} {
		for fuse := range 20 {
			b := roomy(t)
			for _, x := range body {
				b.asks(client, writeTo(7, 3, uint32(x.off), x.data), api.OK)
			}
			b.asks(client, commitOf(7, 3), api.OK)
			b.asks(client, writeTo(8, 1, 0, mixed(2, 100)), api.OK)
			b.asks(client, writeTo(7, 3, 200, "more"), api.OK)
			b.d.Fuse(fuse)
			p := b.next(0, o)
			_, done := b.s.Handle(p)
			b.d.Crash(uint64(fuse) * 0x9e3779b97f4a7c15)
			b = start(t, b.d)
			got := b.s.Object(7)
			with, without := pagesOf(append(body, put{200, "more"})...), pagesOf(body...)
			became := (o.Code == api.OpCommit || o.Code == api.OpFence) && o.File == 7
			switch {
			case slices.Equal(got, without) && !(done && became):
			case slices.Equal(got, with) && became:
			default:
				t.Fatalf("%+v, fuse %d: the object is %v", o, fuse, got)
			}
			if epoch := b.s.Epoch(7); epoch != 3 && (o.Code != api.OpFence || o.File != 7 || epoch != o.Epoch) {
				t.Fatalf("%+v, fuse %d: the epoch is %d", o, fuse, epoch)
			}
		}
	}
}
