package mserver

import (
	"maps"
	"math/rand"
	"slices"
	"testing"

	"lamella/api"
	"lamella/device"
	"lamella/ledger"
)

// run is a random run of a server and of its telling.
type run struct {
	t        *testing.T
	r        *rand.Rand
	d        *device.Device
	s        *Server
	x        *telling
	lives    map[int]uint32
	seqs     map[int]uint32
	asked    []api.Packet
	answered []api.Packet
	boots    []uint32
	// seen counts how often what a run is for has happened.
	seen map[string]int
}

// pick is one of a list.
func pick[T any](r *rand.Rand, l ...T) T { return l[r.Intn(len(l))] }

// path is a path, of which some lead somewhere.
func (u *run) path() string {
	return pick(u.r, "/a", "/a", "/b", "/b", "/c", "/d", "/d/a", "/d/b", "/e", "/e/f", "/a/x", "/", "bad", "")
}

// file is the number of a file, with its epoch, or nearly: of one that a client holds, if there is one.
func (u *run) file(client int) (uint32, uint32) {
	l := u.x.now.Locks
	if len(l) == 0 || u.r.Intn(20) == 0 {
		return uint32(u.r.Intn(5)), uint32(u.r.Intn(3))
	}
	k := pick(u.r, l...)
	for _, held := range l {
		if u.r.Intn(4) > 0 && slices.ContainsFunc(held.Holders, func(h api.Holder) bool { return int(h.Client) == client }) {
			k = held
		}
	}
	if u.r.Intn(10) == 0 {
		return k.File, k.Epoch + uint32(u.r.Intn(3)) - 1
	}
	return k.File, k.Epoch
}

// off is an offset, or a size.
func (u *run) off() uint32 {
	if u.r.Intn(12) == 0 {
		return pick[uint32](u.r, 960, 961, 1000, 1023, 1024, 1025, top, top-63)
	}
	return uint32(u.r.Intn(60))
}

// handleOf is a client's handle, mostly of what it has open, and whether it has anything open.
func (u *run) handleOf(client int) (uint32, bool) {
	var own []uint32
	for _, o := range u.x.now.Opens {
		if int(o.Client) == client {
			own = append(own, o.Handle)
		}
	}
	if len(own) == 0 || u.r.Intn(12) == 0 {
		return uint32(u.r.Intn(3)), len(own) > 0
	}
	return pick(u.r, own...), true
}

// op is what a client asks.
func (u *run) op(client int) api.Op {
	handle, opened := u.handleOf(client)
	if !opened && u.r.Intn(3) > 0 {
		return openOf(pick(u.r, "/a", "/b", "/c"), handle, uint32(5+u.r.Intn(3)), 0)
	}
	file, epoch := u.file(client)
	switch n := u.r.Intn(40); {
	case n < 7:
		return openOf(u.path(), handle, uint32(u.r.Intn(8)), pick[uint32](u.r, 0, 0, 0, 0, 1, 2, 3, 4))
	case n < 9:
		return closeOf(handle)
	case n < 10:
		return mkdirOf(u.path())
	case n < 12:
		return removeOf(u.path())
	case n < 13:
		return rmdirOf(u.path())
	case n < 14:
		return renameOf(u.path(), u.path())
	case n < 15:
		return listOf(u.path())
	case n < 16:
		return statOf(u.path())
	case n < 18:
		return sizeTo(handle, u.off())
	case n < 27:
		return getOf(handle, pick[uint32](u.r, 0, 1, 1, 1, 1, 2, 2, 2, 2, 3))
	case n < 29:
		return returnOf(file, epoch)
	case n < 34:
		return grewOf(file, epoch, u.off())
	case n < 37:
		return giveOf(handle, u.off(), pick[uint32](u.r, 0, 1, 5, 20, 64, 65))
	}
	return takeOf(handle, u.off(), mixed(u.r.Intn(200), pick(u.r, 0, 1, 5, 20, 64, 65)))
}

// next is a client's next packet, or nearly.
func (u *run) next() api.Packet {
	client := 17 + u.r.Intn(4)
	if u.r.Intn(60) == 0 {
		u.lives[client]++
		u.seqs[client] = 0
	}
	// A client goes on when its last request was answered.
	for _, h := range u.x.now.Seats {
		if int(h.Client) == client && h.Reply.Life == u.lives[client] {
			u.seqs[client] = h.Reply.Seq
		}
	}
	p := asking(client, u.lives[client], u.seqs[client]+1, u.op(client))
	switch u.r.Intn(40) {
	case 0:
		p.Seq += uint32(u.r.Intn(4)) - 2
	case 1:
		p.Life += uint32(u.r.Intn(3)) - 1
	case 2:
		p.Asked = uint32(u.r.Intn(3))
	case 3:
		p.From += u.r.Intn(10) - 5
	case 4:
		p.To = u.r.Intn(2)
	case 5:
		p.Kind = u.r.Intn(5)
	case 6:
		p.Op.Code = u.r.Intn(32)
	}
	return p
}

// told is a data server's reply to what is outstanding, or nearly.
func (u *run) told() (api.Packet, bool) {
	var out []int
	for server := 1; server <= u.x.servers; server++ {
		if u.x.lines[server].out {
			out = append(out, server)
		}
	}
	if len(out) == 0 {
		return api.Packet{}, false
	}
	server := pick(u.r, out...)
	l := u.x.lines[server]
	p := replying(sending(server, u.x.now.Boot, l.seq, l.boot, l.o), u.boots[server], api.OK, "")
	switch {
	case p.Asked != p.Boot:
		p.Op.Err = api.ErrBoot
	case u.r.Intn(12) == 0:
		p.Op.Err = pick(u.r, api.ErrFull, api.ErrFull, api.ErrEpoch, api.ErrBig, api.ErrArg)
	case l.o.Code == 2 && u.r.Intn(15) == 0:
		p.Op.Data = mixed(u.r.Intn(200), u.r.Intn(129))
	case l.o.Code == 2:
		p.Op.Data = mixed(u.r.Intn(200), int(l.o.Len))
	}
	switch u.r.Intn(60) {
	case 0:
		p.Seq++
	case 1:
		p.Life--
	case 2:
		p.Asked++
	case 3:
		u.boots[server]++
	case 4:
		p.From = 1 + u.r.Intn(20)
	}
	return p, true
}

// handle hands a packet to both.
func (u *run) handle(p api.Packet) {
	u.t.Helper()
	u.compare(p, u.s.Handle(p), u.x.handle(p))
}

// compare fails unless both have sent the same and are the same.
func (u *run) compare(what any, got, want []api.Packet) {
	u.t.Helper()
	(&bench{t: u.t}).same(what, got, want...)
	u.x.agree(u.t, u.s)
	for _, p := range want {
		u.seen[[]string{"", "asks", "replies", "calls"}[p.Kind]]++
		if p.Kind == 1 {
			u.asked = append(u.asked, p)
		}
		if p.Kind == 2 && p.Op.Err == api.OK {
			u.seen[codeNames()[p.Op.Code]]++
		}
	}
}

// codeNames are the codes of requests.
func codeNames() map[int]string {
	return map[int]string{11: "open", 12: "close", 13: "mkdir", 14: "remove", 15: "rmdir", 16: "rename", 17: "list", 18: "stat", 19: "size", 20: "get", 21: "return", 22: "grew", 23: "give", 24: "take"}
}

// has fails unless the device has the rows that are told.
func (u *run) has() {
	u.t.Helper()
	got := map[string]string{}
	for _, c := range kept(u.t, u.d) {
		got[c.Key] = c.Value
	}
	if !maps.Equal(got, u.x.rows) {
		u.t.Errorf("the device has %q, want %q", got, u.x.rows)
	}
}

// begin starts the server anew on what the device has; rows are those that it may have.
func (u *run) begin(rows ...map[string]string) {
	u.t.Helper()
	has := map[string]string{}
	for _, c := range kept(u.t, u.d) {
		has[c.Key] = c.Value
	}
	if !slices.ContainsFunc(rows, func(m map[string]string) bool { return maps.Equal(m, has) }) {
		u.t.Fatalf("the device has %q, want one of %q", has, rows)
	}
	s, e := Start(u.d, u.x.servers, u.x.unit)
	if e != api.OK {
		u.t.Fatalf("Start = %d", e)
	}
	u.s, u.x = s, tellingOf(u.x.servers, u.x.unit, has)
	u.x.agree(u.t, u.s)
	u.has()
}

// fall lets the server fall, and begins anew: behind a call of which the device died, with what it had ahead of the commit in which it died, or behind it.
func (u *run) fall(keep uint64) {
	u.t.Helper()
	u.d.Crash(keep)
	u.begin(u.x.rows)
}

// dies makes a call with a fuse: the device dies in one of the call's commits, or not at all.
func (u *run) dies(what any, call func() []api.Packet, tell func() []api.Packet) {
	u.t.Helper()
	u.d.Fuse(u.r.Intn(40))
	got := call()
	want := tell()
	if !u.s.Down() {
		u.d.Fuse(-1)
		u.compare(what, got, want)
		return
	}
	u.seen["deaths"]++
	if len(got) != 0 {
		u.t.Errorf("a server that died sends %+v", got)
	}
	// The commit in which it died is told by the state ahead of it.
	is := u.s.State()
	keep := u.r.Uint64()
	for i, x := range u.x.log {
		if ledger.Same(is, x.was) && !u.t.Failed() {
			u.seen["deaths in commit "+string(rune('0'+i))]++
			u.d.Crash(keep)
			u.begin(x.before, x.after)
			return
		}
	}
	u.t.Fatalf("the server died in the state %+v, which is none ahead of a commit", is)
}

// step makes a random step.
func (u *run) step() {
	u.t.Helper()
	if u.x.down {
		// Only an answer that is no seat lets it be down.
		u.seen["answers that are no seats"]++
		if !u.d.Dead() {
			u.t.Error("the device is not dead")
		}
		u.fall(u.r.Uint64())
	}
	switch n := u.r.Intn(100); {
	case n < 38:
		p := u.next()
		u.answered = append(u.answered, p)
		u.handle(p)
	case n < 43 && len(u.answered) > 0:
		// What was asked lately comes again.
		u.handle(u.answered[max(0, len(u.answered)-1-u.r.Intn(20))])
	case n < 84:
		if p, out := u.told(); out {
			u.handle(p)
		}
	case n < 86 && len(u.asked) > 0:
		p := u.asked[max(0, len(u.asked)-1-u.r.Intn(20))]
		u.handle(replying(p, p.Asked, api.OK, ""))
	case n < 96:
		u.compare("a tick", u.s.Tick(), u.x.tick())
	case n < 97:
		u.has()
		u.fall(u.r.Uint64())
		u.seen["falls"]++
	case n < 98:
		u.dies("a tick", u.s.Tick, u.x.tick)
	default:
		p := u.next()
		if q, out := u.told(); out && u.r.Intn(2) == 0 {
			p = q
		}
		u.dies(p, func() []api.Packet { return u.s.Handle(p) }, func() []api.Packet { return u.x.handle(p) })
	}
}

// random is a random run.
func random(t *testing.T, seed int64, steps int, seen map[string]int) {
	t.Helper()
	r := rand.New(rand.NewSource(seed))
	servers, unit := pick(r, 1, 1, 2, 2, 3, 5, 16), pick(r, 1, 4, 7, 16, 64)
	u := &run{t: t, r: r, d: device.New(blocks), lives: map[int]uint32{}, seqs: map[int]uint32{}, boots: make([]uint32, 21), seen: seen}
	for client := 17; client <= 20; client++ {
		u.lives[client] = 1
	}
	for server := range u.boots {
		u.boots[server] = uint32(r.Intn(3))
	}
	start := map[string]string{}
	if r.Intn(2) == 0 {
		s := u.state()
		lay(t, u.d, rowsOf(t, s)...)
		start = mapOf(s)
		for _, h := range s.Seats {
			u.lives[int(h.Client)] = max(1, h.Reply.Life)
		}
	}
	u.x = &telling{servers: servers, unit: unit}
	u.begin(start)
	for i := range steps {
		u.step()
		if i%20 == 0 {
			u.has()
		}
		if t.Failed() {
			t.Fatalf("seed %d, step %d", seed, i)
		}
	}
}

// state is a random state: one that no run of requests may lead to.
func (u *run) state() api.State {
	r := u.r
	s := filed(1+uint32(r.Intn(3)), u.off()%1025, u.off()%1025, u.off()%1025)
	s.Boot = uint32(r.Intn(3))
	s.Tree = append(s.Tree, api.Inode{Id: 5, Parent: 1, Name: "d", Dir: true})
	s.Next = pick[uint32](r, 9, 9, 9, top-2)
	if r.Intn(2) == 0 {
		s.Locks = append(s.Locks, api.Lock{File: 6, Epoch: 3, Gone: true})
	}
	for client := uint32(17); client <= 20; client++ {
		for handle := range uint32(3) {
			if r.Intn(2) == 0 {
				s.Opens = append(s.Opens, api.Open{Client: client, Handle: handle, File: uint32(2 + r.Intn(3)), Access: uint32(1 + r.Intn(3))})
			}
		}
		if r.Intn(5) > 0 {
			p := asking(int(client), uint32(r.Intn(3)), uint32(r.Intn(4)), statOf("/"))
			s.Seats = append(s.Seats, api.Heard{Client: client, Reply: answering(p, api.Op{File: 1, Mode: 1})})
		}
	}
	for i := range s.Locks[:3] {
		k := &s.Locks[i]
		k.Cut, k.Fenced = u.off()%1025, r.Intn(3) > 0
		k.Used = uint32(r.Intn(3))
		if r.Intn(12) == 0 {
			k.Epoch = pick[uint32](r, 0, top-1, top)
		}
		if !k.Fenced {
			continue
		}
		for _, client := range []uint32{0, 17, 18, 19, 20} {
			switch {
			case k.Used == 1 && r.Intn(3) == 0 && len(k.Holders) < 4:
				k.Holders = append(k.Holders, api.Holder{Client: client, Mode: 1})
			case k.Used == 2 && len(k.Holders) == 0 && r.Intn(3) == 0:
				k.Holders = append(k.Holders, api.Holder{Client: client, Mode: 2})
			}
		}
		if r.Intn(3) == 0 {
			w := api.Work{File: k.File, Client: uint32(17 + r.Intn(4)), Life: uint32(r.Intn(3)), Seq: uint32(r.Intn(4)), Code: 23, Off: uint32(r.Intn(60)), Len: uint32(1 + r.Intn(64))}
			if r.Intn(2) == 0 {
				w.Code, w.Data = 24, mixed(0, int(w.Len))
			}
			s.Works = append(s.Works, w)
		}
	}
	return s
}

// P15.1 to P15.8, P15.11, P15.12: over random runs, from new devices and from random states, with packets that come again, are lost, or are none, with data servers that fail and reboot, and devices that die, a server sends what the telling sends, has its state, and its rows.
func TestRandomRuns(t *testing.T) {
	seen := map[string]int{}
	runs := 400
	if testing.Short() {
		runs = 30
	}
	for seed := range runs {
		random(t, int64(seed), 400, seen)
	}
	for _, code := range codeNames() {
		if seen[code] < runs/20 {
			t.Errorf("%s is answered %d times only", code, seen[code])
		}
	}
	for what, n := range map[string]int{"asks": 1000, "calls": 100, "deaths": 100, "deaths in commit 0": 100, "deaths in commit 1": 2, "falls": 100, "answers that are no seats": 1} {
		if seen[what] < n {
			t.Errorf("%d %s only", seen[what], what)
		}
	}
	t.Log(seen)
}
