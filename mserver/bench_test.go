package mserver

import (
	"math"
	"slices"
	"strings"
	"testing"

	"lamella/api"
	"lamella/device"
	"lamella/ledger"
	"lamella/rows"
)

const (
	// top is the greatest number.
	top = math.MaxUint32
	// every keeps each unsettled write.
	every = math.MaxUint64
	// blocks is how many a server's device has at least.
	blocks = 41 + 160
)

// The clients, by names that are shorter than their numbers' meaning.
const (
	ann = 17
	bob = 18
	cat = 19
	dan = 20
)

// Packets that are told by hand.

// number is a number's four bytes.
func number(n uint32) string {
	return string([]byte{byte(n >> 24), byte(n >> 16), byte(n >> 8), byte(n)})
}

// zeros are so many zero bytes.
func zeros(n int) string { return strings.Repeat("\x00", n) }

// mixed is n bytes that all differ from their neighbours.
func mixed(from, n int) string {
	b := make([]byte, n)
	for i := range b {
		b[i] = byte(1 + (from+i)%255)
	}
	return string(b)
}

// asking is a client's request.
func asking(client int, life, seq uint32, o api.Op) api.Packet {
	return api.Packet{Kind: 1, From: client, To: 0, Life: life, Seq: seq, Asked: 1, Op: o}
}

// answering is the answer to a client's request that has these fields.
func answering(p api.Packet, o api.Op) api.Packet {
	o.Code = p.Op.Code
	return api.Packet{Kind: 2, From: 0, To: p.From, Life: p.Life, Seq: p.Seq, Asked: p.Asked, Boot: 1, Op: o}
}

// failing is the answer to a client's request that has only an error.
func failing(p api.Packet, e api.Errno) api.Packet { return answering(p, api.Op{Err: e}) }

// calling is what asks a client to give a file back.
func calling(client int, file, epoch uint32) api.Packet {
	return api.Packet{Kind: 3, From: 0, To: client, Op: api.Op{Code: 30, File: file, Epoch: epoch}}
}

// sending is a request to a data server.
func sending(server int, life, seq, asked uint32, o api.Op) api.Packet {
	return api.Packet{Kind: 1, From: 0, To: server, Life: life, Seq: seq, Asked: asked, Op: o}
}

// replying is a data server's reply to a request, from a boot.
func replying(p api.Packet, boot uint32, e api.Errno, data string) api.Packet {
	return api.Packet{
		Kind: 2, From: p.To, To: 0, Life: p.Life, Seq: p.Seq, Asked: p.Asked, Boot: boot,
		Op: api.Op{Code: p.Op.Code, File: p.Op.File, Err: e, Data: data},
	}
}

// What is asked of a metadata server.

func openOf(path string, handle, mode, deny uint32) api.Op {
	return api.Op{Code: 11, Path: path, Handle: handle, Mode: mode, Deny: deny}
}
func closeOf(handle uint32) api.Op      { return api.Op{Code: 12, Handle: handle} }
func mkdirOf(path string) api.Op        { return api.Op{Code: 13, Path: path} }
func removeOf(path string) api.Op       { return api.Op{Code: 14, Path: path} }
func rmdirOf(path string) api.Op        { return api.Op{Code: 15, Path: path} }
func renameOf(from, to string) api.Op   { return api.Op{Code: 16, Path: from, Other: to} }
func listOf(path string) api.Op         { return api.Op{Code: 17, Path: path} }
func statOf(path string) api.Op         { return api.Op{Code: 18, Path: path} }
func sizeTo(handle, size uint32) api.Op { return api.Op{Code: 19, Handle: handle, Size: size} }
func getOf(handle, mode uint32) api.Op  { return api.Op{Code: 20, Handle: handle, Mode: mode} }
func returnOf(file, epoch uint32) api.Op {
	return api.Op{Code: 21, File: file, Epoch: epoch}
}
func grewOf(file, epoch, size uint32) api.Op {
	return api.Op{Code: 22, File: file, Epoch: epoch, Size: size}
}
func giveOf(handle, off, n uint32) api.Op {
	return api.Op{Code: 23, Handle: handle, Off: off, Len: n}
}
func takeOf(handle, off uint32, data string) api.Op {
	return api.Op{Code: 24, Handle: handle, Off: off, Data: data}
}

// What is asked of data servers.

func writeTo(file, epoch, off uint32, data string) api.Op {
	return api.Op{Code: 1, File: file, Epoch: epoch, Off: off, Data: data}
}
func readOf(file, epoch, off, n uint32) api.Op {
	return api.Op{Code: 2, File: file, Epoch: epoch, Off: off, Len: n}
}
func commitOf(file, epoch uint32) api.Op { return api.Op{Code: 3, File: file, Epoch: epoch} }
func fenceOf(file, epoch, size uint32) api.Op {
	return api.Op{Code: 4, File: file, Epoch: epoch, Size: size}
}
func freeOf(file uint32) api.Op { return api.Op{Code: 5, File: file} }

// Devices and states.

// lay lays rows on a device.
func lay(t *testing.T, d *device.Device, l ...api.Change) {
	t.Helper()
	r, e := rows.Open(d)
	for len(l) > 0 && e == api.OK {
		n := min(len(l), api.MaxChange)
		e = r.Commit(l[:n])
		l = l[n:]
	}
	if e != api.OK {
		t.Fatalf("the rows can't be laid: %d", e)
	}
}

// rowsOf are a state's rows.
func rowsOf(t *testing.T, s api.State) []api.Change {
	t.Helper()
	l, e := ledger.Rows(s)
	if e != api.OK {
		t.Fatalf("%+v is no state: %d", s, e)
	}
	return l
}

// laid is a device that has a state.
func laid(t *testing.T, s api.State) *device.Device {
	t.Helper()
	d := device.New(blocks)
	lay(t, d, rowsOf(t, s)...)
	return d
}

// settled are all blocks of a device without what is unsettled.
func settled(d *device.Device) []string {
	var l []string
	for at := range d.Blocks() {
		l = append(l, d.Settled(at))
	}
	return l
}

// kept are the rows that a device would have if it fell now and kept nothing that is unsettled. They are read from a copy.
func kept(t *testing.T, d *device.Device) []api.Change {
	t.Helper()
	twin := device.New(d.Blocks())
	for at, b := range settled(d) {
		twin.Write(at, b)
	}
	twin.Barrier()
	r, e := rows.Open(twin)
	if e != api.OK {
		t.Fatalf("the device can't be opened: %d", e)
	}
	return r.All()
}

// keeps fails unless a device has exactly the rows of a state.
func keeps(t *testing.T, d *device.Device, s api.State) {
	t.Helper()
	got, e := ledger.Read(kept(t, d))
	if e != api.OK || !ledger.Same(got, s) {
		t.Errorf("the device has %+v, %d, want %+v", got, e, s)
	}
}

// clone is a state in memory of its own.
func clone(s api.State) api.State {
	s.Tree = slices.Clone(s.Tree)
	s.Opens = slices.Clone(s.Opens)
	s.Locks = slices.Clone(s.Locks)
	for i := range s.Locks {
		s.Locks[i].Holders = slices.Clone(s.Locks[i].Holders)
	}
	s.Works = slices.Clone(s.Works)
	s.Seats = slices.Clone(s.Seats)
	return s
}

// filed is a state with the files /a, of number 2, /b, of number 3, and so on, of these sizes, whose locks are settled at an epoch; all of it is changed by others.
func filed(epoch uint32, sizes ...uint32) api.State {
	s := api.State{Next: uint32(2 + len(sizes)), Tree: []api.Inode{{Id: 1, Dir: true}}}
	for i, size := range sizes {
		file := uint32(2 + i)
		s.Tree = append(s.Tree, api.Inode{Id: file, Parent: 1, Name: string(rune('a' + i)), Size: size})
		s.Locks = append(s.Locks, api.Lock{File: file, Epoch: epoch, Fenced: true, Cut: size})
	}
	return s
}

// A server with those who talk to it.

// bench is a server, the requests' numbers of its clients, and what is outstanding at data servers.
type bench struct {
	t             *testing.T
	d             *device.Device
	s             *Server
	servers, unit int
	lives, seqs   map[int]uint32
	out           map[int]api.Packet
}

// start starts a server on a device.
func start(t *testing.T, d *device.Device, servers, unit int) *bench {
	t.Helper()
	b := &bench{t: t, d: d, servers: servers, unit: unit, lives: map[int]uint32{}, seqs: map[int]uint32{}}
	b.restart()
	return b
}

// startNew starts a server on a new device.
func startNew(t *testing.T, servers, unit int) *bench {
	t.Helper()
	return start(t, device.New(blocks), servers, unit)
}

// startAt starts a server that has a state.
func startAt(t *testing.T, s api.State, servers, unit int) *bench {
	t.Helper()
	b := start(t, laid(t, s), servers, unit)
	for _, h := range s.Seats {
		b.lives[int(h.Client)], b.seqs[int(h.Client)] = h.Reply.Life, h.Reply.Seq
	}
	return b
}

// restart starts the server anew.
func (b *bench) restart() {
	b.t.Helper()
	s, e := Start(b.d, b.servers, b.unit)
	if e != api.OK || s == nil || s.Down() {
		b.t.Fatalf("Start = %v, %d", s, e)
	}
	b.s, b.out = s, map[int]api.Packet{}
}

// crash lets the device fall, and starts the server anew.
func (b *bench) crash(keep uint64) {
	b.t.Helper()
	b.d.Crash(keep)
	b.restart()
}

// took takes note of what was sent.
func (b *bench) took(l []api.Packet) []api.Packet {
	for _, p := range l {
		if p.Kind == api.PackAsk {
			b.out[p.To] = p
		}
	}
	return l
}

// handle hands a packet in.
func (b *bench) handle(p api.Packet) []api.Packet { return b.took(b.s.Handle(p)) }

// tick lets a tick go by.
func (b *bench) tick() []api.Packet { return b.took(b.s.Tick()) }

// next is a client's next request.
func (b *bench) next(client int, o api.Op) api.Packet {
	return asking(client, max(b.lives[client], 1), b.seqs[client]+1, o)
}

// reborn lets a client's requests be those of its next life.
func (b *bench) reborn(client int) {
	b.lives[client], b.seqs[client] = max(b.lives[client], 1)+1, 0
}

// ask sends a client's next request, and counts it.
func (b *bench) ask(client int, o api.Op) (api.Packet, []api.Packet) {
	p := b.next(client, o)
	b.lives[client], b.seqs[client] = p.Life, p.Seq
	return p, b.handle(p)
}

// same fails unless exactly these packets were sent.
func (b *bench) same(what any, got []api.Packet, want ...api.Packet) {
	b.t.Helper()
	if slices.Equal(got, want) {
		return
	}
	b.t.Errorf("%+v sends", what)
	for _, p := range got {
		b.t.Errorf("  %+v", p)
	}
	b.t.Errorf("want")
	for _, p := range want {
		b.t.Errorf("  %+v", p)
	}
}

// tells fails unless a client's next request is answered so, and these packets are sent behind the answer.
func (b *bench) tells(client int, o, answer api.Op, rest ...api.Packet) {
	b.t.Helper()
	p, got := b.ask(client, o)
	b.same(p, got, append([]api.Packet{answering(p, answer)}, rest...)...)
}

// does fails unless a client's next request is answered without anything.
func (b *bench) does(client int, o api.Op, rest ...api.Packet) {
	b.t.Helper()
	b.tells(client, o, api.Op{}, rest...)
}

// fails fails unless a client's next request is answered with an error.
func (b *bench) fails(client int, o api.Op, e api.Errno, rest ...api.Packet) {
	b.t.Helper()
	b.tells(client, o, api.Op{Err: e}, rest...)
}

// works fails unless a client's next request is not answered, and these packets are sent.
func (b *bench) works(client int, o api.Op, rest ...api.Packet) api.Packet {
	b.t.Helper()
	p, got := b.ask(client, o)
	b.same(p, got, rest...)
	return p
}

// reply hands in a data server's answer to what is outstanding.
func (b *bench) reply(server int, e api.Errno, data string) []api.Packet {
	b.t.Helper()
	p, out := b.out[server]
	if !out {
		b.t.Fatalf("nothing is outstanding at %d", server)
	}
	delete(b.out, server)
	return b.handle(replying(p, p.Asked, e, data))
}

// replies fails unless behind a data server's answer without an error these packets are sent.
func (b *bench) replies(server int, data string, want ...api.Packet) {
	b.t.Helper()
	p := b.out[server]
	b.same(p, b.reply(server, api.OK, data), want...)
}

// refuses fails unless behind a data server's answer with an error these packets are sent.
func (b *bench) refuses(server int, e api.Errno, want ...api.Packet) {
	b.t.Helper()
	p := b.out[server]
	b.same(p, b.reply(server, e, ""), want...)
}

// reboots fails unless behind a data server's reply from another boot these packets are sent.
func (b *bench) reboots(server int, boot uint32, want ...api.Packet) {
	b.t.Helper()
	p := b.out[server]
	delete(b.out, server)
	b.same(p, b.handle(replying(p, boot, api.ErrBoot, "")), want...)
}

// ticks fails unless at a tick these packets are sent.
func (b *bench) ticks(want ...api.Packet) {
	b.t.Helper()
	b.same("a tick", b.tick(), want...)
}

// quiet answers data servers' requests, without errors and with zero bytes, until none is outstanding; what it answers is all else that is sent meanwhile.
func (b *bench) quiet() []api.Packet {
	b.t.Helper()
	var rest []api.Packet
	for rounds := 0; len(b.out) > 0; rounds++ {
		if rounds > 200 {
			b.t.Fatalf("there is no end of what is sent: %+v", b.out)
		}
		for server := range b.servers {
			p, out := b.out[server+1]
			if !out {
				continue
			}
			for _, q := range b.reply(server+1, api.OK, zeros(int(p.Op.Len))) {
				if q.Kind != api.PackAsk {
					rest = append(rest, q)
				}
			}
		}
	}
	return rest
}

// is fails unless the server has exactly this state.
func (b *bench) is(want api.State) {
	b.t.Helper()
	if got := b.s.State(); !ledger.Same(got, want) {
		b.t.Errorf("the state is %+v, want %+v", got, want)
	}
}

// lock is a file's lock; the zero one if there is none.
func (b *bench) lock(file uint32) api.Lock {
	for _, l := range b.s.State().Locks {
		if l.File == file {
			return l
		}
	}
	return api.Lock{}
}

// locked fails unless a file has this lock.
func (b *bench) locked(want api.Lock) {
	b.t.Helper()
	got := b.lock(want.File)
	if !ledger.Same(api.State{Locks: []api.Lock{got}}, api.State{Locks: []api.Lock{want}}) {
		b.t.Errorf("the lock is %+v, want %+v", got, want)
	}
}

// inode is what the tree has by a number.
func (b *bench) inode(id uint32) api.Inode {
	for _, n := range b.s.State().Tree {
		if n.Id == id {
			return n
		}
	}
	return api.Inode{}
}

// sized fails unless a file has this size.
func (b *bench) sized(file, size uint32) {
	b.t.Helper()
	if n := b.inode(file); n.Id != file || n.Size != size {
		b.t.Errorf("the file is %+v, want the size %d", n, size)
	}
}

// made makes and opens a file, and lets its lock be settled.
func (b *bench) made(client int, path string, handle, mode uint32) {
	b.t.Helper()
	b.ask(client, openOf(path, handle, mode|4, 0))
	b.quiet()
}

// got lets a client have a hold; nobody may be in the way.
func (b *bench) got(client int, handle, mode uint32) {
	b.t.Helper()
	for range 2 {
		if _, l := b.ask(client, getOf(handle, mode)); len(l) > 0 && l[0].Op.Err == api.OK {
			return
		}
		b.quiet()
	}
	b.t.Fatalf("%d isn't granted the hold", client)
}

// isDown fails unless the server is down, has this state, and does nothing.
func (b *bench) isDown(want api.State) {
	b.t.Helper()
	before := settled(b.d)
	if !b.s.Down() {
		b.t.Error("the server is not down")
	}
	b.same("a server that is down", b.s.Tick())
	for client := range 4 {
		b.same("a server that is down", b.s.Handle(b.next(17+client, mkdirOf("/zz"))))
		b.same("a server that is down", b.s.Handle(asking(17+client, 1, 1, mkdirOf("/zz"))))
	}
	for _, p := range b.out {
		b.same("a server that is down", b.s.Handle(replying(p, p.Asked, api.OK, "")))
		b.same("a server that is down", b.s.Handle(replying(p, p.Asked+1, api.ErrBoot, "")))
	}
	b.is(want)
	if !slices.Equal(before, settled(b.d)) {
		b.t.Error("a server that is down writes")
	}
}
