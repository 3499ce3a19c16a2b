package mserver

import (
	"math/rand"
	"slices"
	"strings"
	"testing"

	"lamella/api"
	"lamella/device"
	"lamella/dserver"
	"lamella/lane"
	"lamella/tree"
)

// A whole of servers and clients, over a net that loses, doubles and delays packets, and with devices that die.

// person is a client: its line to the metadata server, what it has asked, and what there must be in its own directory, where nobody else does anything.
type person struct {
	line  api.Line
	asks  api.Op
	now   api.Errno
	names []api.Inode
	next  uint32
	own   bool
	done  int
}

// whole is all of them.
type whole struct {
	t       *testing.T
	r       *rand.Rand
	servers int
	unit    int
	meta    *Server
	disk    *device.Device
	data    []*dserver.Server
	disks   []*device.Device
	people  map[int]*person
	net     []api.Packet
	calm    bool
	epochs  map[uint32]uint32
	seen    map[string]int
}

// newWhole is a whole of which all servers are up.
func newWhole(t *testing.T, seed int64, seen map[string]int) *whole {
	t.Helper()
	r := rand.New(rand.NewSource(seed))
	w := &whole{
		t: t, r: r, servers: pick(r, 1, 2, 3), unit: pick(r, 4, 16), disk: device.New(blocks),
		people: map[int]*person{}, epochs: map[uint32]uint32{}, seen: seen,
	}
	w.data, w.disks = make([]*dserver.Server, w.servers+1), make([]*device.Device, w.servers+1)
	for n := range w.data {
		w.disks[n] = device.New(41 + 1 + 40 + 100)
		w.start(n)
	}
	for client := 17; client <= 20; client++ {
		w.people[client] = &person{line: api.Line{Life: 1, Boot: 1}, names: []api.Inode{{Id: 1, Dir: true}}, next: 2}
	}
	return w
}

// start starts a server, the metadata server as 0.
func (w *whole) start(n int) {
	w.t.Helper()
	var e api.Errno
	if n == 0 {
		w.meta, e = Start(w.disk, w.servers, w.unit)
	} else {
		w.data[n], e = dserver.Start(w.disks[n], n)
	}
	if e != api.OK {
		w.t.Fatalf("%d doesn't start: %d", n, e)
	}
}

// send puts packets into the net.
func (w *whole) send(l ...api.Packet) {
	for _, p := range l {
		w.granted(p)
		if w.calm || w.r.Intn(12) > 0 {
			w.net = append(w.net, p)
		}
	}
}

// granted fails unless a client that is told of a hold has it, in an epoch that all data servers know.
func (w *whole) granted(p api.Packet) {
	w.t.Helper()
	if p.Kind != 2 || p.Op.Code != api.OpGet || p.Op.Err != api.OK {
		return
	}
	w.seen["holds"]++
	for _, l := range w.meta.State().Locks {
		if l.File != p.Op.File || l.Epoch != p.Op.Epoch {
			continue
		}
		if !l.Fenced || l.Used < p.Op.Mode {
			w.t.Errorf("%+v is granted by %+v", p, l)
		}
		for n := 1; n <= w.servers; n++ {
			if w.data[n].Epoch(l.File) != l.Epoch {
				w.t.Errorf("%+v is granted, but %d knows the epoch %d", p, n, w.data[n].Epoch(l.File))
			}
		}
	}
}

// take takes a packet out of the net, and lets it arrive.
func (w *whole) take(i int) {
	p := w.net[i]
	if !w.calm && w.r.Intn(8) == 0 {
		w.seen["doubled"]++
	} else {
		w.net = slices.Delete(w.net, i, i+1)
	}
	switch {
	case p.To == 0:
		w.send(w.meta.Handle(p)...)
	case p.To <= w.servers:
		if q, ok := w.data[p.To].Handle(p); ok {
			w.send(q)
		}
	case p.Kind == 2:
		w.hear(p.To, p)
	}
	w.check()
}

// hear lets a client hear an answer. What it did in its own directory must have been done once.
func (w *whole) hear(client int, p api.Packet) {
	u := w.people[client]
	line, told := lane.Hear(u.line, p.Life, p.Boot, p.Asked, p.Seq)
	u.line = line
	if told != api.Answer {
		return
	}
	u.done++
	if u.own && p.Op.Err != u.now {
		w.t.Errorf("%d is answered %+v to %+v, want the error %d", client, p.Op, u.asks, u.now)
	}
	if u.own && u.asks.Code == api.OpList && u.now == api.OK {
		names, _ := tree.List(u.names, u.asks.Path)
		if p.Op.Data != strings.Join(names, "/") {
			w.t.Errorf("%d is answered %+v to %+v, want %q", client, p.Op, u.asks, names)
		}
	}
}

// ask lets a client ask, if it waits for nothing.
func (w *whole) ask(client int) {
	u := w.people[client]
	if u.line.Out {
		return
	}
	u.own = w.r.Intn(3) == 0
	if u.own {
		u.ownOp(w.r, client)
	} else {
		u.asks = w.sharedOp(client)
	}
	u.line, _ = lane.Ask(u.line, "out")
	w.send(w.out(client))
}

// reborn lets a client begin anew, unless it would not know then whether what it asked in its own directory was done.
func (w *whole) reborn(client int) {
	u := w.people[client]
	if !u.line.Out || !u.own {
		u.line = api.Line{Life: u.line.Life + 1, Boot: 1}
		w.seen["lives"]++
	}
}

// out is what a client has asked.
func (w *whole) out(client int) api.Packet {
	u := w.people[client]
	return asking(client, u.line.Life, u.line.Seq, u.asks)
}

// ownOp asks for something in the client's own directory, of which it knows what must come of it.
func (u *person) ownOp(r *rand.Rand, client int) {
	home := "/" + string(rune('p'+client-17))
	path := func() string { return home + pick(r, "", "/x", "/y", "/x/z") }
	from, to := path(), path()
	u.now = api.OK
	switch r.Intn(5) {
	case 0, 1:
		u.asks = mkdirOf(from)
		if t, e := tree.Make(u.names, from, u.next, true); e == api.OK {
			u.names = t
			u.next++
		} else {
			u.now = e
		}
	case 2:
		u.asks = rmdirOf(from)
		if t, _, e := tree.Remove(u.names, from, true); e == api.OK {
			u.names = t
		} else {
			u.now = e
		}
	case 3:
		u.asks = renameOf(from, to)
		if t, e := tree.Rename(u.names, from, to); e == api.OK {
			u.names = t
		} else {
			u.now = e
		}
	case 4:
		u.asks = listOf(home)
		_, u.now = tree.List(u.names, home)
	}
}

// sharedOp is something that all clients do with the same files.
func (w *whole) sharedOp(client int) api.Op {
	path := pick(w.r, "/a", "/b")
	handle := uint32(w.r.Intn(2))
	file, epoch := uint32(2), uint32(1)
	for _, l := range w.meta.State().Locks {
		if w.r.Intn(2) == 0 {
			file, epoch = l.File, l.Epoch
		}
	}
	off, data := uint32(w.r.Intn(40)), mixed(w.r.Intn(200), 1+w.r.Intn(30))
	switch w.r.Intn(12) {
	case 0, 1:
		return openOf(path, handle, 7, 0)
	case 2:
		return closeOf(handle)
	case 3:
		return removeOf(path)
	case 4:
		return sizeTo(handle, off)
	case 5, 6, 7:
		return getOf(handle, uint32(1+w.r.Intn(2)))
	case 8:
		return returnOf(file, epoch)
	case 9:
		return giveOf(handle, off, uint32(len(data)))
	case 10:
		return grewOf(file, epoch, off)
	}
	return takeOf(handle, off, data)
}

// tick lets a tick go by for all.
func (w *whole) tick() {
	w.send(w.meta.Tick()...)
	for client := 17; client <= 20; client++ {
		u := w.people[client]
		line, due := lane.Tick(u.line)
		u.line = line
		if due {
			w.send(w.out(client))
		}
	}
	w.check()
}

// mend lets all servers that are down begin anew.
func (w *whole) mend() {
	for n := range w.data {
		down, d := w.meta.Down(), w.disk
		if n > 0 {
			down, d = w.data[n].Down(), w.disks[n]
		}
		if down {
			w.seen["falls"]++
			d.Crash(w.r.Uint64())
			w.start(n)
			w.check()
		}
	}
}

// fall lets a server fall, at once or when its device dies.
func (w *whole) fall(n int) {
	d := w.disk
	if n > 0 {
		d = w.disks[n]
	}
	if w.r.Intn(2) == 0 {
		d.Fuse(w.r.Intn(30))
		return
	}
	w.seen["falls"]++
	d.Crash(w.r.Uint64())
	w.start(n)
	w.check()
}

// check fails unless epochs don't decrease, what was granted was granted in an epoch that all data servers know, and no data server knows a greater epoch than the lock's.
func (w *whole) check() {
	w.t.Helper()
	for _, l := range w.meta.State().Locks {
		if l.Epoch < w.epochs[l.File] {
			w.t.Errorf("the epoch of %+v was %d", l, w.epochs[l.File])
		}
		w.epochs[l.File] = l.Epoch
		if l.Used > 0 && !l.Fenced && !l.Gone {
			w.t.Errorf("%+v is granted in an epoch that isn't fenced", l)
		}
		for n := 1; n <= w.servers; n++ {
			known := w.data[n].Epoch(l.File)
			if known > l.Epoch || l.Fenced && known != l.Epoch {
				w.t.Errorf("%d knows the epoch %d of %+v", n, known, l)
			}
		}
	}
}

// settles lets all go on without faults until nothing is left to be done: all locks are settled, no work is left, and nothing is known of files that are gone.
func (w *whole) settles() {
	w.t.Helper()
	w.calm = true
	w.disk.Fuse(-1)
	for _, d := range w.disks {
		d.Fuse(-1)
	}
	for range 60 {
		w.mend()
		for len(w.net) > 0 {
			w.take(0)
		}
		w.tick()
	}
	s := w.meta.State()
	if len(s.Works) != 0 || slices.ContainsFunc(s.Locks, func(l api.Lock) bool { return !l.Fenced }) {
		w.t.Errorf("in the calm there is %+v", s)
	}
	for client, u := range w.people {
		if u.line.Out {
			w.t.Errorf("%d waits for the answer to %+v", client, u.asks)
		}
	}
	for file := range w.epochs {
		there := slices.ContainsFunc(s.Locks, func(l api.Lock) bool { return l.File == file })
		for n := 1; n <= w.servers; n++ {
			if !there && w.data[n].Epoch(file) != 0 {
				w.t.Errorf("%d knows the file %d, which is gone", n, file)
			}
		}
	}
}

// P15.9, P15.10, P15.11: over a bad net, with servers that fall and clients that begin anew: what is granted is granted in an epoch that all data servers know, epochs never decrease, and what a client asks, however often it arrives, is done once; in the calm nothing is left to be done.
func TestWhole(t *testing.T) {
	seen := map[string]int{}
	for seed := range int64(60) {
		w := newWhole(t, seed, seen)
		for range 1500 {
			switch n := w.r.Intn(100); {
			case n < 20:
				w.ask(17 + w.r.Intn(4))
			case n < 85 && len(w.net) > 0:
				w.take(w.r.Intn(min(len(w.net), 12)))
			case n < 86 && len(w.net) > 0:
				i := w.r.Intn(len(w.net))
				w.net = slices.Delete(w.net, i, i+1)
			case n < 95:
				w.tick()
			case n < 96:
				w.fall(w.r.Intn(w.servers + 1))
			case n < 97:
				w.reborn(17 + w.r.Intn(4))
			}
			w.mend()
			if t.Failed() {
				t.Fatalf("seed %d", seed)
			}
		}
		w.settles()
		for _, u := range w.people {
			seen["done"] += u.done
		}
		if t.Failed() {
			t.Fatalf("seed %d", seed)
		}
	}
	for what, n := range map[string]int{"done": 2000, "holds": 200, "falls": 200, "doubled": 2000, "lives": 100} {
		if seen[what] < n {
			t.Errorf("%d %s only", seen[what], what)
		}
	}
	t.Log(seen)
}

// served lets a client ask, and all go on without faults until it is answered.
func (w *whole) served(client int, o api.Op) api.Packet {
	w.t.Helper()
	u := w.people[client]
	u.own, u.asks = false, o
	u.line, _ = lane.Ask(u.line, "out")
	w.send(w.out(client))
	for range 60 {
		for len(w.net) > 0 {
			p := w.net[0]
			if p.To == client && p.Kind == 2 && p.Seq == u.line.Seq && p.Life == u.line.Life {
				w.net = w.net[1:]
				w.hear(client, p)
				return p
			}
			w.take(0)
		}
		w.tick()
	}
	w.t.Fatalf("%d isn't answered to %+v", client, o)
	return api.Packet{}
}

// P15.4 to P15.6: with true data servers, what clients let the server write is what they let it read, and what OpSize leaves of it, also when servers fall in between.
func TestGiveAndTake(t *testing.T) {
	for seed := range int64(40) {
		w := newWhole(t, seed, map[string]int{})
		w.calm = true
		for client := 17; client <= 20; client++ {
			w.served(client, openOf("/a", 0, 7, 0))
		}
		var body []byte
		for i := range 60 {
			client := 17 + w.r.Intn(4)
			off, n := w.r.Intn(80), 1+w.r.Intn(64)
			switch w.r.Intn(5) {
			case 0, 1:
				data := mixed(w.r.Intn(200), n)
				if p := w.served(client, takeOf(0, uint32(off), data)); p.Op.Err != api.OK || int(p.Op.Len) != n {
					t.Fatalf("seed %d, %d: %+v", seed, i, p)
				}
				body = append(body, make([]byte, max(0, off+n-len(body)))...)
				copy(body[off:], data)
			case 2, 3:
				want := body[min(off, len(body)):min(off+n, len(body))]
				if p := w.served(client, giveOf(0, uint32(off), uint32(n))); p.Op.Err != api.OK || p.Op.Data != string(want) || int(p.Op.Len) != len(want) {
					t.Fatalf("seed %d, %d: %+v, want %q", seed, i, p, want)
				}
			case 4:
				for w.served(client, sizeTo(0, uint32(off))).Op.Err != api.OK {
				}
				body = append(body, make([]byte, max(0, off-len(body)))...)[:off]
			}
			if w.r.Intn(6) == 0 {
				n := w.r.Intn(w.servers + 1)
				if n == 0 {
					w.disk.Crash(0)
				} else {
					w.disks[n].Crash(0)
				}
				w.start(n)
			}
		}
	}
}
