package dserver

import (
	"math"
	"slices"
	"strings"
	"testing"

	"lamella/api"
	"lamella/device"
	"lamella/proto"
	"lamella/rows"
)

const (
	// top is the greatest number.
	top = math.MaxUint32
	// every keeps each unsettled write.
	every = math.MaxUint64
	// node is the server's number, where no other one is asked for.
	node = 3
	// client is a sender that is not 0.
	client = 17
)

// Bytes and rows that are told by hand.

// number is a number's four bytes.
func number(n uint32) string {
	return string([]byte{byte(n >> 24), byte(n >> 16), byte(n >> 8), byte(n)})
}

// zeros are so many zero bytes.
func zeros(n int) string { return strings.Repeat("\x00", n) }

// mixed is n bytes that all differ from their neighbours, and none of which is zero.
func mixed(from, n int) string {
	b := make([]byte, n)
	for i := range b {
		b[i] = byte(1 + (from+i)%255)
	}
	return string(b)
}

// put is what lies at an offset.
type put struct {
	off  int
	data string
}

// pagesOf is the object that has these bytes.
func pagesOf(puts ...put) []api.Page {
	var b [api.MaxFile]byte
	for _, p := range puts {
		copy(b[p.off:p.off+len(p.data)], p.data)
	}
	return pagesIn(b)
}

// pagesIn is the object that has these bytes.
func pagesIn(b [api.MaxFile]byte) []api.Page {
	var o []api.Page
	for n := range 32 {
		data := string(b[32*n : 32*n+32])
		if data != zeros(32) {
			o = append(o, api.Page{N: n, Data: data})
		}
	}
	return o
}

// bootRow is the row of a boot.
func bootRow(boot uint32) api.Change { return api.Change{Key: "B", Value: number(boot)} }

// epochRow is the row of a file's epoch.
func epochRow(file, epoch uint32) api.Change {
	return api.Change{Key: "E" + number(file), Value: number(epoch)}
}

// pageKey is the key of a page's row.
func pageKey(file uint32, n int) string { return "P" + number(file) + string([]byte{0, byte(n)}) }

// pageRows are the rows of an object's pages.
func pageRows(file uint32, o []api.Page) []api.Change {
	var l []api.Change
	for _, p := range o {
		l = append(l, api.Change{Key: pageKey(file, p.N), Value: p.Data})
	}
	return l
}

// fileRows are the rows of a file: its epoch and its pages.
func fileRows(file, epoch uint32, puts ...put) []api.Change {
	return append([]api.Change{epochRow(file, epoch)}, pageRows(file, pagesOf(puts...))...)
}

// epochRows are n rows of epochs, of files that no test asks for otherwise.
func epochRows(n int) []api.Change {
	var l []api.Change
	for i := range n {
		l = append(l, epochRow(uint32(5000+i), 1))
	}
	return l
}

// strays are n rows that are neither a boot's, an epoch's nor a page's.
func strays(n int) []api.Change {
	var l []api.Change
	for i := range n {
		l = append(l, api.Change{Key: "X" + number(uint32(i)), Value: "stray"})
	}
	return l
}

// sorted are rows by their keys.
func sorted(l []api.Change) []api.Change {
	l = slices.Clone(l)
	slices.SortFunc(l, func(a, b api.Change) int { return strings.Compare(a.Key, b.Key) })
	return l
}

// Devices.

// settle settles what was written to a device.
func settle(t *testing.T, d *device.Device) {
	t.Helper()
	if e := d.Barrier(); e != api.OK {
		t.Fatalf("Barrier = %d", e)
	}
}

// laid is a device with so many home blocks that has these rows.
func laid(t *testing.T, homes int, l ...api.Change) *device.Device {
	t.Helper()
	d := device.New(api.HomeFirst + homes)
	lay(t, d, l...)
	return d
}

// lay lays rows on a device.
func lay(t *testing.T, d *device.Device, l ...api.Change) {
	t.Helper()
	r, e := rows.Open(d)
	for len(l) > 0 && e == api.OK {
		n := min(len(l), api.MaxChange)
		e = r.Commit(l[:n])
		l = l[n:]
	}
	if e != api.OK {
		t.Fatalf("the rows can't be laid: %d", e)
	}
}

// worn lets a device's log have done all commits that it can do but so many.
func worn(t *testing.T, d *device.Device, left uint32) {
	t.Helper()
	mark := "LCOM" + number(top-left)
	d.Write(0, mark+zeros(api.BlockSize-len(mark)))
	settle(t, d)
}

// settled are all blocks of a device without what is unsettled.
func settled(d *device.Device) []string {
	var l []string
	for at := range d.Blocks() {
		l = append(l, d.Settled(at))
	}
	return l
}

// kept are the rows that a device would have if it fell now and kept nothing that is unsettled. They are read from a copy.
func kept(t *testing.T, d *device.Device) []api.Change {
	t.Helper()
	twin := device.New(d.Blocks())
	for at, b := range settled(d) {
		twin.Write(at, b)
	}
	settle(t, twin)
	r, e := rows.Open(twin)
	if e != api.OK {
		t.Fatalf("the device can't be opened: %d", e)
	}
	return r.All()
}

// keeps fails unless a device has exactly these rows.
func keeps(t *testing.T, d *device.Device, want ...api.Change) {
	t.Helper()
	if got := kept(t, d); !slices.Equal(got, sorted(want)) {
		t.Errorf("the device has %v, want %v", got, sorted(want))
	}
}

// noWrite does something with a device that dies at the first write or barrier, and fails if it dies or changes.
func noWrite(t *testing.T, what string, d *device.Device, do func()) {
	t.Helper()
	before := settled(d)
	d.Fuse(0)
	do()
	if d.Dead() || d.Unsettled() != 0 || !slices.Equal(settled(d), before) {
		t.Errorf("%s: the device was written to", what)
	}
	d.Fuse(-1)
}

// kill lets a device die.
func kill(d *device.Device) {
	d.Fuse(0)
	d.Barrier()
}

// Requests.

// writeTo is a request to write.
func writeTo(file, epoch, off uint32, data string) api.Op {
	return api.Op{Code: api.OpWrite, File: file, Epoch: epoch, Off: off, Data: data}
}

// readFrom is a request to read.
func readFrom(file, epoch, off, length uint32) api.Op {
	return api.Op{Code: api.OpRead, File: file, Epoch: epoch, Off: off, Len: length}
}

// commitOf is a request to commit.
func commitOf(file, epoch uint32) api.Op {
	return api.Op{Code: api.OpCommit, File: file, Epoch: epoch}
}

// fenceOf is a request to fence.
func fenceOf(file, epoch, size uint32) api.Op {
	return api.Op{Code: api.OpFence, File: file, Epoch: epoch, Size: size}
}

// freeOf is a request to free.
func freeOf(file uint32) api.Op { return api.Op{Code: api.OpFree, File: file} }

// bench is a server with its device, and how many requests of each sender it was asked.
type bench struct {
	t    *testing.T
	d    *device.Device
	s    *Server
	node int
	seqs map[int]uint32
}

// start begins a server on a device that lets it.
func start(t *testing.T, d *device.Device) *bench {
	t.Helper()
	return startAs(t, d, node)
}

// startAs begins the server of a number.
func startAs(t *testing.T, d *device.Device, me int) *bench {
	t.Helper()
	s, e := Start(d, me)
	if s == nil || e != api.OK {
		t.Fatalf("Start = %v, %d, want a server", s, e)
	}
	return &bench{t, d, s, me, map[int]uint32{}}
}

// startNew begins a server on a device with so many home blocks that has these rows.
func startNew(t *testing.T, homes int, l ...api.Change) *bench {
	t.Helper()
	return start(t, laid(t, homes, l...))
}

// next is a sender's next request.
func (b *bench) next(from int, o api.Op) api.Packet {
	b.seqs[from]++
	return b.packet(from, b.seqs[from], o)
}

// packet is a sender's request of a number.
func (b *bench) packet(from int, seq uint32, o api.Op) api.Packet {
	return api.Packet{Kind: api.PackAsk, From: from, To: b.node, Life: 1, Seq: seq, Asked: b.s.Boot(), Op: o}
}

// replyTo is the reply that a request is to get.
func (b *bench) replyTo(p api.Packet, data string, e api.Errno) api.Packet {
	return api.Packet{
		Kind: api.PackReply, From: b.node, To: p.From, Life: p.Life, Seq: p.Seq, Asked: p.Asked, Boot: b.s.Boot(),
		Op: api.Op{Code: p.Op.Code, File: p.Op.File, Err: e, Data: data},
	}
}

// replied fails unless a packet has exactly this reply.
func (b *bench) replied(p, want api.Packet) {
	b.t.Helper()
	if got, ok := b.s.Handle(p); got != want || !ok {
		b.t.Errorf("Handle(%+v) = %+v, %v, want %+v", p, got, ok, want)
	}
}

// silent fails if a packet has a reply.
func (b *bench) silent(p api.Packet) {
	b.t.Helper()
	if got, ok := b.s.Handle(p); got != (api.Packet{}) || ok {
		b.t.Errorf("Handle(%+v) = %+v, %v, want no reply", p, got, ok)
	}
}

// asks fails unless a sender's next request has this error.
func (b *bench) asks(from int, o api.Op, want api.Errno) {
	b.t.Helper()
	p := b.next(from, o)
	b.replied(p, b.replyTo(p, "", want))
}

// does fails unless the metadata server's next requests are done.
func (b *bench) does(l ...api.Op) {
	b.t.Helper()
	for _, o := range l {
		b.asks(0, o, api.OK)
	}
}

// reads fails unless these are the bytes that are read.
func (b *bench) reads(file, epoch, off uint32, want string) {
	b.t.Helper()
	p := b.next(client, readFrom(file, epoch, off, uint32(len(want))))
	b.replied(p, b.replyTo(p, want, api.OK))
}

// has fails unless a file has this epoch, these pages, and these stable ones.
func (b *bench) has(file, epoch uint32, object, sure []api.Page) {
	b.t.Helper()
	if got := b.s.Epoch(file); got != epoch {
		b.t.Errorf("Epoch(%d) = %d, want %d", file, got, epoch)
	}
	if got := b.s.Object(file); !slices.Equal(got, object) {
		b.t.Errorf("Object(%d) = %v, want %v", file, got, object)
	}
	if got := b.s.Sure(file); !slices.Equal(got, sure) {
		b.t.Errorf("Sure(%d) = %v, want %v", file, got, sure)
	}
}

// stable fails unless a file has this epoch and these pages, all of them stable.
func (b *bench) stable(file, epoch uint32, o []api.Page) {
	b.t.Helper()
	b.has(file, epoch, o, o)
}

// room fails unless there is room for so many pages.
func (b *bench) room(want int) {
	b.t.Helper()
	if got := b.s.Room(); got != want {
		b.t.Errorf("Room = %d, want %d", got, want)
	}
}

// sight is what a server answers of itself and of some files.
type sight struct {
	boot  uint32
	room  int
	files []view
}

// view is what a server answers of a file.
type view struct {
	file, epoch  uint32
	object, sure []api.Page
}

// sees is what the server answers now.
func (b *bench) sees(files ...uint32) sight {
	x := sight{boot: b.s.Boot(), room: b.s.Room()}
	for _, f := range files {
		x.files = append(x.files, view{f, b.s.Epoch(f), b.s.Object(f), b.s.Sure(f)})
	}
	return x
}

// same says whether two sights are.
func (x sight) same(y sight) bool {
	return x.boot == y.boot && x.room == y.room && slices.EqualFunc(x.files, y.files, func(a, b view) bool {
		return a.file == b.file && a.epoch == b.epoch && slices.Equal(a.object, b.object) && slices.Equal(a.sure, b.sure)
	})
}

// unchanged does something, and fails if what the server answers, or its device, changes by it.
func (b *bench) unchanged(what string, do func(), files ...uint32) {
	b.t.Helper()
	before := b.sees(files...)
	noWrite(b.t, what, b.d, do)
	if now := b.sees(files...); !now.same(before) || b.s.Down() {
		b.t.Errorf("%s: the server is as %v, was as %v", what, now, before)
	}
}

// Start.

// cannotStart fails unless Start answers an error and no server.
func cannotStart(t *testing.T, what string, d *device.Device, me int, want api.Errno) {
	t.Helper()
	s, e := Start(d, me)
	if s != nil || e != want {
		t.Errorf("%s: Start = %v, %d, want nil, %d", what, s, e, want)
	}
}

// P13.1: a server's number is from 1 to MaxNode; with another one nothing is done.
func TestStartNumbers(t *testing.T) {
	for _, me := range []int{math.MinInt, -255, -1, 0, api.MaxNode + 1, api.MaxNode + 2, 257, 1 << 32, math.MaxInt} {
		d := device.New(api.HomeFirst + 50)
		noWrite(t, "Start", d, func() { cannotStart(t, "no number", d, me, api.ErrArg) })
	}
	for _, me := range []int{1, 2, 16, 17, api.MaxNode - 1, api.MaxNode} {
		b := startAs(t, device.New(api.HomeFirst+50), me)
		b.does(fenceOf(7, 1, 0))
		for _, to := range []int{me - 1, me + 1} {
			p := b.next(0, fenceOf(7, 2, 0))
			p.To = to
			b.silent(p)
			b.seqs[0]--
		}
		b.stable(7, 1, nil)
	}
}

// P13.1: layer 5's errors are told.
func TestStartOfADeviceThatCannotBeOpened(t *testing.T) {
	cannotStart(t, "nil", nil, node, api.ErrArg)
	for _, blocks := range []int{-1, 0, 1, api.HomeFirst} {
		cannotStart(t, "too small", device.New(blocks), node, api.ErrArg)
	}
	d := laid(t, 50, bootRow(4))
	kill(d)
	cannotStart(t, "dead", d, node, api.ErrDead)
	d.Crash(0)
	d.Write(api.HomeFirst+49, strings.Repeat("x", api.BlockSize))
	settle(t, d)
	cannotStart(t, "no row", d, node, api.ErrSpoilt)
	d = laid(t, 50, bootRow(4))
	b, _ := d.Read(api.HomeFirst)
	d.Write(api.HomeFirst+1, b)
	settle(t, d)
	cannotStart(t, "a row twice", d, node, api.ErrSpoilt)
}

// P13.1, P13.4: on a new device a server has the boot 1, one row, and nothing else.
func TestStartOnANewDevice(t *testing.T) {
	for _, homes := range []int{1, 2, 40, 41, 42, 50, 512 + 41, api.MaxBlocks - api.HomeFirst} {
		b := startNew(t, homes)
		if b.s.Boot() != 1 || b.s.Down() {
			t.Errorf("Boot = %d, Down = %v", b.s.Boot(), b.s.Down())
		}
		b.room(homes - 1 - 40)
		keeps(t, b.d, bootRow(1))
		if b.d.Unsettled() != 0 {
			t.Error("not all is settled")
		}
		for _, file := range []uint32{0, 1, 7, top} {
			b.stable(file, 0, nil)
		}
	}
}

// P13.1: again and again on the same device, each boot is greater by one, whichever the server's number is.
func TestStartAgain(t *testing.T) {
	d := device.New(api.HomeFirst + 50)
	for i := range 300 {
		b := startAs(t, d, 1+i%api.MaxNode)
		if b.s.Boot() != uint32(i+1) {
			t.Fatalf("Boot = %d, want %d", b.s.Boot(), i+1)
		}
		keeps(t, d, bootRow(uint32(i+1)))
		if i%50 == 7 {
			b.does(fenceOf(7, uint32(i), 0), freeOf(7))
		}
	}
}

// P13.1: the boot is the row's, incremented; the greatest one can't be.
func TestStartBoots(t *testing.T) {
	for _, boot := range []uint32{0, 1, 2, 254, 255, 256, 0xffff, 0x10000, 0xffffff, 1<<31 - 1, 1 << 31, 0x01020304, top - 2, top - 1} {
		b := startNew(t, 50, bootRow(boot))
		if b.s.Boot() != boot+1 {
			t.Errorf("Boot = %d, want %d", b.s.Boot(), boot+1)
		}
		keeps(t, b.d, bootRow(boot+1))
	}
	d := laid(t, 50, bootRow(top-1))
	start(t, d)
	before := settled(d)
	for range 2 {
		cannotStart(t, "the greatest boot", d, node, api.ErrMany)
	}
	if !slices.Equal(settled(d), before) {
		t.Error("the device has changed")
	}
}

// P13.1: what an elder server left is all there, and stable; rows of another kind stay as they are.
func TestStartOnRows(t *testing.T) {
	o7 := []put{{0, "a"}, {31, "bc"}, {1023, "z"}}
	o8 := []put{{0, mixed(3, api.MaxFile)}}
	l := []api.Change{bootRow(9), epochRow(9, top), epochRow(10, 0)}
	l = append(l, fileRows(7, 3, o7...)...)
	l = append(l, fileRows(8, 1<<31, o8...)...)
	l = append(l, pageRows(11, pagesOf(put{64, "no epoch"}))...)
	l = append(l, fileRows(0, 1, put{5, "first"})...)
	l = append(l, fileRows(top, 2, put{6, "last"})...)
	others := []api.Change{{Key: "BB", Value: "x"}, {Key: "C", Value: ""}, {Key: "b", Value: "12"}, {Key: "e" + number(7), Value: "1"}, {Key: "p"}, {Key: "\x00"}, {Key: "B\x00", Value: "y"}, {Key: "A"}, {Key: "F" + number(7)}, {Key: "O"}, {Key: "Q" + number(7)}, {Key: "D"}}
	l = append(l, others...)
	homes := len(l) + 45
	b := startNew(t, homes, l...)
	for range 2 {
		b.stable(7, 3, pagesOf(o7...))
		b.stable(8, 1<<31, pagesOf(o8...))
		b.stable(9, top, nil)
		b.stable(10, 0, nil)
		b.stable(11, 0, pagesOf(put{64, "no epoch"}))
		b.stable(0, 1, pagesOf(put{5, "first"}))
		b.stable(top, 2, pagesOf(put{6, "last"}))
		b.stable(12, 0, nil)
		b.room(45 - 40 + 6)
		l[0] = bootRow(b.s.Boot())
		keeps(t, b.d, l...)
		b = start(t, b.d)
	}
	if b.s.Boot() != 12 {
		t.Errorf("Boot = %d, want 12", b.s.Boot())
	}
}

// P13.1: rows of the chapter's kinds that can't be such are ErrSpoilt, wherever they stand among others; nothing is counted.
func TestStartSpoilt(t *testing.T) {
	for _, x := range spoilt() {
		for _, l := range [][]api.Change{nil, {bootRow(4)}, append(fileRows(7, 3, put{0, "a"}), fileRows(9, 3, put{40, "b"})...)} {
			d := laid(t, 50, l...)
			lay(t, d, x)
			before := kept(t, d)
			for range 2 {
				cannotStart(t, x.Key+"="+x.Value, d, node, api.ErrSpoilt)
			}
			keeps(t, d, before...)
			// Without that row nothing is wrong.
			lay(t, d, api.Change{Key: x.Key, Gone: true})
			start(t, d)
		}
	}
}

// spoilt are rows of which each alone is ErrSpoilt.
func spoilt() []api.Change {
	page := mixed(1, 32)
	l := []api.Change{
		{Key: "B"}, {Key: "B", Value: "\x01"}, {Key: "B", Value: "\x00\x00\x01"}, {Key: "B", Value: number(1) + "\x00"}, {Key: "B", Value: number(0) + number(1)}, {Key: "B", Value: strings.Repeat("b", api.MaxValue)},
		{Key: "E" + number(8)}, {Key: "E" + number(8), Value: "\x01"}, {Key: "E" + number(8), Value: "\x00\x00\x01"}, {Key: "E" + number(8), Value: number(1) + "\x00"}, {Key: "E" + number(top), Value: number(0) + number(1)}, {Key: "E" + number(0), Value: strings.Repeat("e", api.MaxValue)},
		{Key: "E", Value: number(1)}, {Key: "E\x00", Value: number(1)}, {Key: "E\x00\x00\x08", Value: number(1)}, {Key: "E" + number(8) + "\x00", Value: number(1)}, {Key: "E" + number(8) + "\x00\x00", Value: number(1)}, {Key: "E" + strings.Repeat("\xff", api.MaxKey-1), Value: number(1)}, {Key: "E"},
		{Key: "P", Value: page}, {Key: "P\x00", Value: page}, {Key: "P\x00\x00\x08", Value: page}, {Key: "P\x00\x00\x00", Value: page}, {Key: "P"}, {Key: "P\xff\xff\xff", Value: page},
		{Key: "P" + number(8), Value: page}, {Key: "P" + number(7), Value: page}, {Key: "P" + number(8) + "\x00", Value: page}, {Key: pageKey(8, 1) + "\x00", Value: page}, {Key: "P" + strings.Repeat("\xff", api.MaxKey-1), Value: page},
		{Key: pageKey(8, 32), Value: page}, {Key: "P" + number(8) + "\x01\x00", Value: page}, {Key: "P" + number(top) + "\xff\xff", Value: page}, {Key: pageKey(7, 255), Value: page},
		{Key: pageKey(8, 0)}, {Key: pageKey(8, 0), Value: "a"}, {Key: pageKey(8, 1), Value: page[:31]}, {Key: pageKey(8, 1), Value: page + "x"}, {Key: pageKey(8, 1), Value: zeros(32)}, {Key: pageKey(7, 31), Value: zeros(32)}, {Key: pageKey(0, 0), Value: zeros(32)}, {Key: pageKey(top, 31), Value: zeros(31)},
	}
	return l
}

// P13.1: spoilt pages are found behind other objects, and behind other pages of their object.
func TestStartSpoiltBehindOthers(t *testing.T) {
	var l []api.Change
	for file := range uint32(5) {
		l = append(l, fileRows(file, 1, put{0, mixed(int(file), 100)})...)
	}
	for file := range uint32(5) {
		for _, n := range []int{0, 3, 4, 31} {
			d := laid(t, 60, l...)
			lay(t, d, api.Change{Key: pageKey(file, n), Value: zeros(32)})
			cannotStart(t, "a page of zero bytes", d, node, api.ErrSpoilt)
		}
	}
}

// P13.1: without a row B there must be space for one; with it, none is wanted.
func TestStartFull(t *testing.T) {
	for _, homes := range []int{1, 2, 41, 45} {
		d := laid(t, homes, strays(homes)...)
		before := settled(d)
		for range 2 {
			cannotStart(t, "no space", d, node, api.ErrFull)
		}
		if !slices.Equal(settled(d), before) {
			t.Error("the device has changed")
		}
		lay(t, d, api.Change{Key: "X" + number(0), Gone: true})
		b := start(t, d)
		b.room(-40)
		for boot := range uint32(3) {
			if b.s.Boot() != boot+1 {
				t.Errorf("Boot = %d, want %d", b.s.Boot(), boot+1)
			}
			b = start(t, d)
		}
	}
}

// P13.1: where the log has done its last commit, the boot can't be counted: ErrMany, and nothing is changed.
func TestStartOnAWornLog(t *testing.T) {
	for left := range uint32(3) {
		d := laid(t, 50, bootRow(4), epochRow(7, 1))
		worn(t, d, left)
		for i := range left {
			if b := start(t, d); b.s.Boot() != 5+i {
				t.Errorf("Boot = %d, want %d", b.s.Boot(), 5+i)
			}
		}
		for range 2 {
			cannotStart(t, "no commit is left", d, node, api.ErrMany)
		}
		keeps(t, d, bootRow(4+left), epochRow(7, 1))
	}
}

// P13.1: of two errors the one that the chapter tells first is told.
func TestStartOfTwoErrors(t *testing.T) {
	ends, bad, many := bootRow(top), api.Change{Key: "E", Value: number(1)}, strays(45)
	junk := func(l ...api.Change) *device.Device {
		d := laid(t, 45, l...)
		d.Write(api.HomeFirst+44, strings.Repeat("x", api.BlockSize))
		settle(t, d)
		return d
	}
	worn := func(d *device.Device) *device.Device { worn(t, d, 0); return d }
	dead := func(d *device.Device) *device.Device { kill(d); return d }
	for _, x := range []struct {
		what string
		d    *device.Device
		me   int
		want api.Errno
	}{
		{"number, nil", nil, 0, api.ErrArg},
		{"number, small", device.New(3), 256, api.ErrArg},
		{"number, dead", dead(laid(t, 45)), 0, api.ErrArg},
		{"number, junk", junk(), 0, api.ErrArg},
		{"number, spoilt", laid(t, 45, bad), 256, api.ErrArg},
		{"number, full", laid(t, 45, many...), 0, api.ErrArg},
		{"number, the last boot", laid(t, 45, ends), 256, api.ErrArg},
		{"number, worn", worn(laid(t, 45)), -1, api.ErrArg},
		{"small, dead", dead(device.New(41)), node, api.ErrArg},
		{"dead, junk", dead(junk()), node, api.ErrDead},
		{"dead, spoilt", dead(laid(t, 45, bad)), node, api.ErrDead},
		{"dead, full", dead(laid(t, 45, many...)), node, api.ErrDead},
		{"dead, the last boot", dead(laid(t, 45, ends)), node, api.ErrDead},
		{"dead, worn", dead(worn(laid(t, 45))), node, api.ErrDead},
		{"junk, full but for it", junk(many[:44]...), node, api.ErrSpoilt},
		{"junk, the last boot", junk(ends), node, api.ErrSpoilt},
		{"junk, worn", worn(junk()), node, api.ErrSpoilt},
		{"spoilt, full", laid(t, 45, append(strays(44), bad)...), node, api.ErrSpoilt},
		{"spoilt, the last boot", laid(t, 45, bad, ends), node, api.ErrSpoilt},
		{"spoilt page, the last boot", laid(t, 45, api.Change{Key: "P"}, ends), node, api.ErrSpoilt},
		{"spoilt object, full", laid(t, 45, append(strays(44), api.Change{Key: pageKey(1, 1)})...), node, api.ErrSpoilt},
		{"spoilt, worn", worn(laid(t, 45, bad)), node, api.ErrSpoilt},
		{"full, worn", worn(laid(t, 45, many...)), node, api.ErrFull},
		{"the last boot, worn", worn(laid(t, 45, ends)), node, api.ErrMany},
		{"the last boot, else full", laid(t, 45, append(strays(44), ends)...), node, api.ErrMany},
	} {
		cannotStart(t, x.what, x.d, x.me, x.want)
	}
}

// P13.1: what is told ahead of the boot's commit is told though the device would die of that commit.
func TestStartErrorsOfADeviceThatWouldDie(t *testing.T) {
	for _, x := range []struct {
		l    []api.Change
		want api.Errno
	}{
		{[]api.Change{{Key: "E", Value: number(1)}}, api.ErrSpoilt},
		{strays(45), api.ErrFull},
		{[]api.Change{bootRow(top)}, api.ErrMany},
		{[]api.Change{bootRow(4)}, api.ErrDead},
	} {
		d := laid(t, 45, x.l...)
		// A mark of no blocks: the log's Open has nothing to write.
		worn(t, d, 9)
		d.Fuse(0)
		cannotStart(t, "it would die", d, node, x.want)
		if d.Dead() != (x.want == api.ErrDead) {
			t.Errorf("Dead = %v behind %d", d.Dead(), x.want)
		}
	}
}

// P13.4: a nil server is down, has nothing, and does not reply.
func TestNilServer(t *testing.T) {
	var s *Server
	b := &bench{t, device.New(50), s, node, map[int]uint32{}}
	for range 2 {
		if !s.Down() || s.Boot() != 0 || s.Room() != 0 {
			t.Errorf("Down = %v, Boot = %d, Room = %d", s.Down(), s.Boot(), s.Room())
		}
		for _, file := range []uint32{0, 7, top} {
			b.stable(file, 0, nil)
		}
		for _, o := range []api.Op{writeTo(7, 0, 0, "a"), readFrom(7, 0, 0, 1), commitOf(7, 0), fenceOf(7, 1, 0), freeOf(7)} {
			for to := range 3 {
				p := b.next(0, o)
				p.To = to
				if !proto.Right(p) {
					t.Errorf("%+v is no packet", p)
				}
				b.silent(p)
				p.Asked = 1
				b.silent(p)
			}
		}
		b.silent(api.Packet{})
	}
}
