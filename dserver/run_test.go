package dserver

import (
	"maps"
	"math/rand"
	"slices"
	"testing"

	"lamella/api"
	"lamella/device"
	"lamella/lane"
	"lamella/rows"
)

// A second telling of a server: bytes without pages, and a device of its own, to whose rows each change is told.

// body is all bytes of an object.
type body [api.MaxFile]byte

// object is what a file is to a server.
type object struct {
	known     bool
	epoch     uint32
	now, sure body
}

// seat is what was done last for a sender.
type seat struct {
	life, seq uint32
	reply     api.Packet
}

// telling is what a server is to be.
type telling struct {
	twin    *device.Device
	rows    *rows.Rows
	boot    uint32
	objects map[uint32]object
	seats   map[int]seat
	dead    bool
}

// lies says whether a body has a page that isn't all zero.
func (b body) lies(n int) bool { return string(b[32*n:32*n+32]) != zeros(32) }

// begin takes up what the twin has, as a new server.
func (x *telling) begin() api.Errno {
	r, e := rows.Open(x.twin)
	if e != api.OK {
		return e
	}
	*x = telling{twin: x.twin, rows: r, boot: 1, objects: map[uint32]object{}, seats: map[int]seat{}}
	for _, c := range r.All() {
		if c.Key == "B" {
			x.boot = numbered(c.Value) + 1
			continue
		}
		if c.Key[0] != 'E' && c.Key[0] != 'P' {
			continue
		}
		file := numbered(c.Key[1:5])
		o := x.objects[file]
		if c.Key[0] == 'E' {
			o.known, o.epoch = true, numbered(c.Value)
		} else {
			copy(o.sure[32*int(c.Key[6]):], c.Value)
			o.now = o.sure
		}
		x.objects[file] = o
	}
	return r.Commit([]api.Change{bootRow(x.boot)})
}

// numbered is the number of four bytes.
func numbered(s string) uint32 {
	return uint32(s[0])<<24 | uint32(s[1])<<16 | uint32(s[2])<<8 | uint32(s[3])
}

// room is the chapter's: layer 5's Free, less 40, with the epochs, less the pages that are not in the rows.
func (x *telling) room() int {
	room := x.rows.Free() - 40
	for _, o := range x.objects {
		if o.known {
			room++
		}
		room -= o.fresh()
	}
	return room
}

// fresh is how many pages of an object are not in the rows.
func (o object) fresh() int {
	n := 0
	for p := range 32 {
		if o.now.lies(p) && !o.sure.lies(p) {
			n++
		}
	}
	return n
}

// become makes an object a file's, in the rows and here; one that isn't known has no epoch, and no bytes.
func (x *telling) become(file uint32, o object) api.Errno {
	var l []api.Change
	for p := range 32 {
		c := api.Change{Key: pageKey(file, p), Gone: true}
		if o.now.lies(p) {
			c.Gone, c.Value = false, string(o.now[32*p:32*p+32])
		}
		l = append(l, c)
	}
	c := epochRow(file, o.epoch)
	if !o.known {
		c = api.Change{Key: c.Key, Gone: true}
	}
	e := x.rows.Commit(append([]api.Change{c}, l...))
	if e == api.OK {
		o.sure = o.now
		x.objects[file] = o
	}
	return e
}

// does is what is to come of an operation.
func (x *telling) does(from int, p api.Op) (string, api.Errno) {
	o := x.objects[p.File]
	if p.Code <= api.OpCommit && (!o.known || o.epoch != p.Epoch) {
		return "", api.ErrEpoch
	}
	if p.Code >= api.OpFence && from != 0 {
		return "", api.ErrArg
	}
	switch p.Code {
	case api.OpWrite:
		return "", x.write(p)
	case api.OpRead:
		if int64(p.Off)+int64(p.Len) > 1024 || p.Len > 128 {
			return "", api.ErrBig
		}
		return string(o.now[p.Off:][:p.Len]), api.OK
	case api.OpCommit:
		return "", x.become(p.File, o)
	case api.OpFree:
		return "", x.become(p.File, object{})
	}
	switch {
	case p.Epoch == 0 || o.known && o.epoch > p.Epoch:
		return "", api.ErrEpoch
	case o.known && o.epoch == p.Epoch:
		return "", api.OK
	}
	for i := range o.now {
		if int64(i) >= int64(p.Size) {
			o.now[i] = 0
		}
	}
	o.known, o.epoch = true, p.Epoch
	return "", x.become(p.File, o)
}

// write is what is to come of a write.
func (x *telling) write(p api.Op) api.Errno {
	o := x.objects[p.File]
	if int64(p.Off)+int64(len(p.Data)) > 1024 {
		return api.ErrBig
	}
	was := o.fresh()
	copy(o.now[p.Off:], p.Data)
	if more := o.fresh() - was; more > 0 && more > x.room() {
		return api.ErrFull
	}
	x.objects[p.File] = o
	return api.OK
}

// answers is what a packet is to be answered.
func (x *telling) answers(p api.Packet) (api.Packet, bool) {
	if x.dead || p.Kind != api.PackAsk || p.To != node || p.Op.Code < 1 || p.Op.Code > 5 || len(p.Op.Data) > 128 {
		return api.Packet{}, false
	}
	reply := api.Packet{Kind: 2, From: node, To: p.From, Life: p.Life, Seq: p.Seq, Asked: p.Asked, Boot: x.boot, Op: api.Op{Code: p.Op.Code, File: p.Op.File}}
	if p.Asked != x.boot {
		reply.Op.Err = api.ErrBoot
		return reply, true
	}
	s := x.seats[p.From]
	switch judged(s.life, s.seq, p.Life, p.Seq) {
	case "again":
		return s.reply, true
	case "new":
		reply.Op.Data, reply.Op.Err = x.does(p.From, p.Op)
		if reply.Op.Err == api.ErrDead {
			x.dead = true
			return api.Packet{}, false
		}
		x.seats[p.From] = seat{p.Life, p.Seq, reply}
		return reply, true
	}
	return api.Packet{}, false
}

// Random runs.

// run is a server and its telling.
type run struct {
	t    *testing.T
	rnd  *rand.Rand
	d    *device.Device
	s    *Server
	x    *telling
	last map[int]api.Packet
	seen map[string]int
}

// runFiles are the files of runs: the bytes of their numbers are alike.
func runFiles() []uint32 { return []uint32{7, 7 << 8, 0, top} }

// runKind is on which device a run begins.
type runKind struct {
	homes int
	l     []api.Change
	left  uint32
}

// runKinds are devices with much room, with little, with more epochs than the room is reckoned for, and with a log that has few commits left.
func runKinds() []runKind {
	return []runKind{
		{41 + 150, nil, 1 << 31},
		{41 + 6, nil, 1 << 31},
		{41 + 20, append(fileRows(7, 3, put{40, mixed(1, 400)}), fileRows(0, 0, put{0, "a"})...), 1 << 31},
		{1 + 50 + 8, append(epochRows(50), strays(1)...), 1 << 31},
		{41 + 30, fileRows(7, 3, put{40, mixed(1, 400)}), 9},
	}
}

// newRun begins a run.
func newRun(t *testing.T, k runKind, seed int64, seen map[string]int) *run {
	t.Helper()
	r := &run{t: t, rnd: rand.New(rand.NewSource(seed)), last: map[int]api.Packet{}, seen: seen}
	r.d = laid(t, k.homes, k.l...)
	r.x = &telling{twin: laid(t, k.homes, k.l...)}
	if k.left < 1<<31 {
		worn(t, r.d, k.left)
		worn(t, r.x.twin, k.left)
	}
	r.begin()
	return r
}

// begin begins the server anew. There is none if the log has no commit left.
func (r *run) begin() {
	r.t.Helper()
	s, e := Start(r.d, node)
	if want := r.x.begin(); e != want || (s == nil) != (e != api.OK) {
		r.t.Fatalf("Start = %v, %d, want %d", s, e, want)
	}
	r.s = s
	if s != nil {
		r.agree()
	}
}

// agree fails unless the server answers of itself what its telling does, and has the same rows.
func (r *run) agree() {
	r.t.Helper()
	if r.s.Boot() != r.x.boot || r.s.Room() != r.x.room() || r.s.Down() != r.x.dead {
		r.t.Errorf("Boot = %d, Room = %d, Down = %v, want %d, %d, %v", r.s.Boot(), r.s.Room(), r.s.Down(), r.x.boot, r.x.room(), r.x.dead)
	}
	for _, f := range runFiles() {
		o := r.x.objects[f]
		if r.s.Epoch(f) != o.epoch || !slices.Equal(r.s.Object(f), pagesIn(o.now)) || !slices.Equal(r.s.Sure(f), pagesIn(o.sure)) {
			r.t.Errorf("file %d has %d, %v, %v, want %d, %v, %v", f, r.s.Epoch(f), r.s.Object(f), r.s.Sure(f), o.epoch, pagesIn(o.now), pagesIn(o.sure))
		}
	}
	if !r.x.dead {
		keeps(r.t, r.d, r.x.rows.All()...)
	}
}

// op is some operation.
func (r *run) op() api.Op {
	files := runFiles()
	o := api.Op{Code: 1 + r.rnd.Intn(5), File: files[r.rnd.Intn(len(files))]}
	if r.rnd.Intn(3) == 0 {
		o.Code = api.OpWrite
	}
	o.Epoch = r.x.objects[o.File].epoch
	switch r.rnd.Intn(8) {
	case 0:
		o.Epoch += uint32(r.rnd.Intn(3)) - 1
	case 1:
		o.Epoch = []uint32{0, 1, top}[r.rnd.Intn(3)]
	}
	if o.Code == api.OpFence {
		o.Epoch += uint32(r.rnd.Intn(3))
		o.Size = uint32(r.rnd.Intn(1200))
	}
	o.Off, o.Len = uint32(r.rnd.Intn(1030)), uint32(r.rnd.Intn(135))
	if r.rnd.Intn(12) == 0 {
		o.Off = []uint32{1024, top, 1 << 31, top - 60}[r.rnd.Intn(4)]
	}
	o.Data = mixed(r.rnd.Intn(200), r.rnd.Intn(129))
	if r.rnd.Intn(3) == 0 {
		o.Data = zeros(len(o.Data))
	}
	if r.rnd.Intn(40) == 0 {
		o.File = uint32(r.rnd.Intn(300))
	}
	return o
}

// packet is some packet: mostly the next request of its sender, but doubled, late, early, of another life or boot, and wrong ones too.
func (r *run) packet() api.Packet {
	o := r.op()
	from := []int{0, 0, client, 18, node}[r.rnd.Intn(5)]
	if o.Code >= api.OpFence && r.rnd.Intn(6) > 0 {
		from = 0
	}
	s := r.x.seats[from]
	p := api.Packet{Kind: 1, From: from, To: node, Life: max(s.life, 1), Seq: s.seq + 1, Asked: r.x.boot, Op: o}
	switch r.rnd.Intn(16) {
	case 0:
		return r.last[from]
	case 1:
		p.Seq = s.seq + uint32(r.rnd.Intn(4)) - 1
	case 2:
		p.Life, p.Seq = s.life+uint32(r.rnd.Intn(4))-1, uint32(1+r.rnd.Intn(2))
	case 3:
		p.Asked += uint32(r.rnd.Intn(3)) - 1
	case 4:
		p = wrong(p, r.rnd.Intn(6))
	}
	r.last[from] = p
	return p
}

// wrong is a packet that isn't to be answered.
func wrong(p api.Packet, how int) api.Packet {
	switch how {
	case 0:
		p.Kind = api.PackReply
	case 1:
		p.To++
	case 2:
		p.Op.Code = api.OpOpen
	case 3:
		p.Op.Code = 6
	case 4:
		p.Op.Data = mixed(1, 129)
	case 5:
		p.Op.Code = 0
	}
	return p
}

// step sends a packet, to a device that may die of it, and lets the server begin anew now and then.
func (r *run) step() {
	r.t.Helper()
	fuse := -1
	if r.rnd.Intn(12) == 0 {
		fuse = r.rnd.Intn(24)
	}
	r.d.Fuse(fuse)
	r.x.twin.Fuse(fuse)
	r.send(r.packet())
	if r.x.dead || r.rnd.Intn(60) == 0 {
		r.fall()
		return
	}
	r.d.Fuse(-1)
	r.x.twin.Fuse(-1)
}

// send sends a packet to both.
func (r *run) send(p api.Packet) {
	r.t.Helper()
	want, answered := r.x.answers(p)
	got, ok := r.s.Handle(p)
	if got != want || ok != answered {
		r.t.Errorf("Handle(%+v) = %+v, %v, want %+v, %v", p, got, ok, want, answered)
	}
	r.seen[kindOf(p, want, answered)]++
	r.agree()
}

// kindOf tells what came of a packet.
func kindOf(p, reply api.Packet, answered bool) string {
	if !answered {
		return "silent"
	}
	return string(rune('0'+reply.Op.Code)) + ":" + string(rune('a'+reply.Op.Err))
}

// fall lets the device fall and the server begin anew.
func (r *run) fall() {
	r.t.Helper()
	keep := r.rnd.Uint64()
	r.d.Crash(keep)
	r.x.twin.Crash(keep)
	r.seen["fall"]++
	r.begin()
}

// P13.1 to P13.4, P13.6 to P13.8: over many requests, deaths, crashes and beginnings, a server answers as its telling does, and has the same rows.
func TestLongRuns(t *testing.T) {
	seen := map[string]int{}
	for seed := range int64(25) {
		for i, k := range runKinds() {
			r := newRun(t, k, seed, seen)
			for range 250 {
				r.step()
				if t.Failed() {
					t.Fatalf("seed %d, kind %d", seed, i)
				}
				if r.s == nil {
					break
				}
			}
		}
	}
	for _, what := range []string{
		"silent", "fall",
		"1:a", "1:g", "1:p", "1:r", "1:s", "2:a", "2:p", "2:r", "2:s", "3:a", "3:g", "3:q", "3:r", "3:s", "4:a", "4:b", "4:g", "4:q", "4:r", "4:s", "5:a", "5:b", "5:q", "5:s",
	} {
		if seen[what] < 5 {
			t.Errorf("%s was seen %d times: %v", what, seen[what], seen)
		}
	}
}

// Consequences.

// P13.5, P13.8: whatever is requested, an object changes and its bytes are told only for a request with the file's epoch, or of the metadata server, which fences with a greater one or frees; epochs never decrease but by a free, also behind crashes; and no other file is touched.
func TestFencing(t *testing.T) {
	seen := map[string]int{}
	for seed := range int64(20) {
		r := newRun(t, runKind{41 + 100, fileRows(7, 3, put{0, mixed(1, 500)}), 1 << 31}, 1000+seed, seen)
		for range 300 {
			before := r.views()
			p := r.packet()
			reply, _ := r.s.Handle(p)
			r.fenced(p, reply, before)
			r.x.answers(p)
			if r.rnd.Intn(30) == 0 {
				before = r.views()
				r.fall()
				r.rising(before)
			}
			if t.Failed() {
				t.Fatalf("seed %d, %+v", seed, p)
			}
		}
	}
	for _, what := range []string{"written", "fenced", "freed", "told", "fall"} {
		if seen[what] < 50 {
			t.Errorf("%s was seen %d times", what, seen[what])
		}
	}
}

// views are what the server answers of each file.
func (r *run) views() map[uint32]view {
	m := map[uint32]view{}
	for _, f := range runFiles() {
		m[f] = view{f, r.s.Epoch(f), r.s.Object(f), r.s.Sure(f)}
	}
	return m
}

// fenced fails if a request did what it mustn't.
func (r *run) fenced(p, reply api.Packet, before map[uint32]view) {
	r.t.Helper()
	o := p.Op
	for f, now := range r.views() {
		was := before[f]
		changed := !slices.Equal(now.object, was.object) || !slices.Equal(now.sure, was.sure)
		if !changed && now.epoch == was.epoch {
			continue
		}
		switch {
		case o.File != f || p.Asked != r.s.Boot():
			r.t.Errorf("file %d was touched", f)
		case o.Code == api.OpWrite || o.Code == api.OpCommit:
			if now.epoch != was.epoch || o.Epoch != was.epoch {
				r.t.Errorf("epoch %d writes in epoch %d", o.Epoch, was.epoch)
			}
			r.seen["written"]++
		case o.Code == api.OpFence && p.From == 0:
			if o.Epoch <= was.epoch || now.epoch != o.Epoch || !slices.Equal(now.sure, now.object) {
				r.t.Errorf("epoch %d fences epoch %d", o.Epoch, was.epoch)
			}
			r.seen["fenced"]++
		case o.Code == api.OpFree && p.From == 0:
			if now.epoch != 0 || len(now.object) != 0 || len(now.sure) != 0 {
				r.t.Errorf("file %d isn't free", f)
			}
			r.seen["freed"]++
		default:
			r.t.Errorf("file %d was touched", f)
		}
	}
	// What is told again was told when its request came first.
	if reply.Op.Data != "" && r.last[p.From] == p && reply.Seq == p.Seq && r.x.seats[p.From].seq != p.Seq {
		if o.Code != api.OpRead || o.Epoch != before[o.File].epoch && slices.Contains(runFiles(), o.File) {
			r.t.Errorf("epoch %d is told bytes", o.Epoch)
		}
		r.seen["told"]++
	}
}

// rising fails if a beginning has lost an epoch or what was stable, or has what was not.
func (r *run) rising(before map[uint32]view) {
	r.t.Helper()
	for f, now := range r.views() {
		was := before[f]
		if now.epoch != was.epoch || !slices.Equal(now.sure, was.sure) || !slices.Equal(now.object, was.sure) {
			r.t.Errorf("file %d is %v behind a restart, was %v", f, now, was)
		}
	}
}

// P13.7: over a net that loses, doubles and delays packets, lines have each request executed once and in order: each sender's bytes are as its requests left them when they came, and each answer is of the last request.
func TestExecutedOnceOverABadNet(t *testing.T) {
	for seed := range int64(40) {
		rnd := rand.New(rand.NewSource(seed))
		b := roomy(t)
		senders := []int{client, 18, 19}
		lines := map[int]api.Line{}
		for _, from := range senders {
			lines[from] = api.Line{Life: uint32(1 + rnd.Intn(3)), Boot: 1}
		}
		asked, done := map[int]api.Op{}, map[int]int{}
		bytes := map[int]string{}
		var net []api.Packet
		for step := 0; step < 4000; step++ {
			from := senders[rnd.Intn(len(senders))]
			l := lines[from]
			off := uint32(100 * (from - client))
			send := false
			if !l.Out {
				l, _ = lane.Ask(l, "")
				asked[from] = readFrom(7, 3, off, 3)
				if l.Seq%2 == 1 {
					asked[from] = writeTo(7, 3, off, mixed(int(l.Seq), 3))
					bytes[from] = asked[from].Data
				}
				send = true
			} else {
				l, send = lane.Tick(l)
			}
			if send {
				p := b.packet(from, l.Seq, asked[from])
				p.Life = l.Life
				net = append(net, p)
			}
			lines[from] = l
			if len(net) == 0 {
				continue
			}
			at := rnd.Intn(len(net))
			p := net[at]
			if rnd.Intn(3) > 0 {
				net = slices.Delete(net, at, at+1)
			}
			if rnd.Intn(4) == 0 {
				continue
			}
			if p.Kind == api.PackAsk {
				if reply, ok := b.s.Handle(p); ok {
					net = append(net, reply)
				}
				continue
			}
			l, heard := lane.Hear(lines[p.To], p.Life, p.Boot, p.Asked, p.Seq)
			lines[p.To] = l
			if heard != api.Answer {
				continue
			}
			done[p.To]++
			want := b.replyTo(api.Packet{From: p.To, Life: l.Life, Seq: l.Seq, Asked: 1, Op: asked[p.To]}, "", api.OK)
			if want.Op.Code == api.OpRead {
				want.Op.Data = bytes[p.To]
			}
			if p != want {
				t.Fatalf("seed %d: the answer is %+v, want %+v", seed, p, want)
			}
		}
		for _, from := range senders {
			if done[from] < 50 {
				t.Errorf("%d requests of %d were done", done[from], from)
			}
		}
	}
}

// P13.8: for each request for one file, whatever comes of it, no other file changes, and a read tells only its file's bytes, though all files have the same pages.
func TestFilesApart(t *testing.T) {
	numbers := []uint32{0, 1, 7, 8, 0x107, 0x700, 0x70000, 0x7000000, 0x50000007, 1 << 31, top - 1, top}
	var l []api.Change
	bytes := map[uint32]string{}
	for i, f := range numbers {
		bytes[f] = mixed(20*i, 70)
		l = append(l, fileRows(f, 3, put{0, bytes[f]})...)
	}
	b := startNew(t, 41+200, l...)
	for i, f := range numbers {
		data := mixed(100+i, 10)
		for _, o := range []api.Op{
			writeTo(f, 3, 0, data), commitOf(f, 3), writeTo(f, 2, 0, "x"), writeTo(f, 3, 40, data), fenceOf(f, 4, 44), writeTo(f, 4, 50, "y"), fenceOf(f, 1, 0), freeOf(f), writeTo(f, 4, 0, "z"),
		} {
			before := map[uint32]view{}
			for _, g := range numbers {
				before[g] = view{g, b.s.Epoch(g), b.s.Object(g), b.s.Sure(g)}
			}
			b.s.Handle(b.next(0, o))
			for _, g := range slices.Sorted(maps.Keys(before)) {
				if g != f {
					b.has(g, before[g].epoch, before[g].object, before[g].sure)
				}
			}
		}
		for _, g := range numbers[i+1:] {
			b.reads(g, 3, 0, bytes[g])
		}
		b.stable(f, 0, nil)
	}
	keeps(t, b.d, bootRow(1))
}
