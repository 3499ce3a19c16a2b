package mserver

import (
	"cmp"
	"maps"
	"slices"
	"strings"
	"testing"

	"lamella/api"
	"lamella/hold"
	"lamella/ledger"
	"lamella/proto"
	"lamella/share"
	"lamella/stripe"
	"lamella/tree"
)

// A second telling of a server, by the chapter's sentences, one behind the other. It has no device: each commit changes a map of rows.

// telling is what a server is to be.
type telling struct {
	servers, unit int
	down          bool
	now           api.State
	rows          map[string]string
	log           []step
	lines         []line
	knows         map[fact]bool
	queues        map[uint32][]place
	recalls       map[uint32]asker
	begun         map[uint32]*progress
	sent          []api.Packet
}

// step is a commit of the call: the state and the rows ahead of it, and the rows behind it.
type step struct {
	was           api.State
	before, after map[string]string
}

// line is what is outstanding at a data server.
type line struct {
	boot, seq uint32
	out       bool
	o         api.Op
	left, gap int
}

// fact is that a server knows an epoch of a file, or that it is gone.
type fact struct {
	server      int
	file, epoch uint32
	gone        bool
}

// place is a client in a queue.
type place struct {
	client uint32
	age    int
}

// asker is a recall.
type asker struct {
	client, mode uint32
	age          int
}

// progress is that of a work: what each server has told, which servers are finished by an error, and the work's error.
type progress struct {
	told map[int][]string
	over map[int]bool
	e    api.Errno
}

// fell is the panic of a call of which the device dies.
type fell struct{}

// tellingOf is a server that begins with these rows.
func tellingOf(servers, unit int, rows map[string]string) *telling {
	x := &telling{
		servers: servers, unit: unit, rows: map[string]string{}, lines: make([]line, servers+1),
		knows: map[fact]bool{}, queues: map[uint32][]place{}, recalls: map[uint32]asker{}, begun: map[uint32]*progress{},
	}
	var l []api.Change
	for _, key := range slices.Sorted(maps.Keys(rows)) {
		l = append(l, api.Change{Key: key, Value: rows[key]})
	}
	x.now, _ = ledger.Read(l)
	x.now.Boot++
	x.rows = mapOf(x.now)
	return x
}

// mapOf are a state's rows.
func mapOf(s api.State) map[string]string {
	m := map[string]string{}
	l, _ := ledger.Rows(s)
	for _, c := range l {
		m[c.Key] = c.Value
	}
	return m
}

// commit commits what is other in a state.
func (x *telling) commit(now api.State) {
	if !ledger.Right(now) {
		x.log = append(x.log, step{x.now, x.rows, x.rows})
		panic(fell{})
	}
	was, is, after := mapOf(x.now), mapOf(now), maps.Clone(x.rows)
	for key := range was {
		if _, there := is[key]; !there {
			delete(after, key)
		}
	}
	for key, value := range is {
		if old, there := was[key]; !there || old != value {
			after[key] = value
		}
	}
	x.log = append(x.log, step{x.now, x.rows, after})
	x.now, x.rows = clone(now), after
}

// call makes a call of which the device may die.
func (x *telling) call(do func()) (sent []api.Packet) {
	x.sent, x.log = nil, nil
	if x.down {
		return nil
	}
	defer func() {
		if r := recover(); r != nil {
			if _, ok := r.(fell); !ok {
				panic(r)
			}
			x.down, sent = true, nil
		}
	}()
	do()
	return x.sent
}

// handle is Handle.
func (x *telling) handle(p api.Packet) []api.Packet {
	return x.call(func() {
		if !proto.Right(p) || p.To != 0 {
			return
		}
		if p.Kind == 1 && p.From >= 17 && p.From <= 20 && p.Op.Code >= 11 && p.Op.Code <= 24 {
			x.request(p)
		}
		if p.Kind == 2 && p.From >= 1 && p.From <= x.servers {
			x.reply(p)
		}
		x.proceed()
	})
}

// tick is Tick.
func (x *telling) tick() []api.Packet {
	return x.call(func() {
		for server := 1; server <= x.servers; server++ {
			l := &x.lines[server]
			if !l.out {
				continue
			}
			l.left--
			if l.left == 0 {
				l.gap = min(2*l.gap, 8)
				l.left = l.gap
				x.put(server)
			}
		}
		for _, file := range slices.Sorted(maps.Keys(x.recalls)) {
			r := x.recalls[file]
			k, there := x.lock(file)
			others := hold.Others(k, r.client, r.mode)
			if !there || k.Gone || len(others) == 0 {
				delete(x.recalls, file)
				continue
			}
			if len(others) == 1 && others[0] == 0 {
				continue
			}
			r.age++
			x.recalls[file] = r
			if r.age == 6 {
				k, _ = hold.Revoke(k)
				x.commit(x.with(x.now, k))
				delete(x.recalls, file)
			} else if r.age == 1 || r.age == 3 || r.age == 5 {
				x.calls(k, others)
			}
		}
		for file, q := range x.queues {
			var rest []place
			for _, w := range q {
				if w.age++; w.age < 4 {
					rest = append(rest, w)
				}
			}
			x.queues[file] = rest
		}
		x.proceed()
	})
}

// put sends what is outstanding at a server.
func (x *telling) put(server int) {
	l := x.lines[server]
	x.sent = append(x.sent, sending(server, x.now.Boot, l.seq, l.boot, l.o))
}

// calls calls holders, but 0.
func (x *telling) calls(k api.Lock, others []uint32) {
	for _, client := range others {
		if client > 0 {
			x.sent = append(x.sent, calling(int(client), k.File, k.Epoch))
		}
	}
}

// lock is a file's lock.
func (x *telling) lock(file uint32) (api.Lock, bool) {
	for _, k := range x.now.Locks {
		if k.File == file {
			return k, true
		}
	}
	return api.Lock{}, false
}

// with is a state with another lock of a file.
func (x *telling) with(s api.State, k api.Lock) api.State {
	s = clone(s)
	for i := range s.Locks {
		if s.Locks[i].File == k.File {
			s.Locks[i] = k
		}
	}
	return s
}

// size is a file's size.
func (x *telling) size(s api.State, file uint32) uint32 {
	for _, n := range s.Tree {
		if n.Id == file {
			return n.Size
		}
	}
	return 0
}

// resized is a state in which a file has another size.
func resized(s api.State, file, size uint32) api.State {
	s = clone(s)
	for i := range s.Tree {
		if s.Tree[i].Id == file {
			s.Tree[i].Size = size
		}
	}
	return s
}

// workOf is whether a file has a work.
func workOf(s api.State, file uint32) bool {
	return slices.ContainsFunc(s.Works, func(w api.Work) bool { return w.File == file })
}

// recall begins a recall.
func (x *telling) recall(file, client, mode uint32) {
	k, _ := x.lock(file)
	r, on := x.recalls[file]
	if !on || len(hold.Others(k, r.client, r.mode)) == 0 {
		x.recalls[file] = asker{client, mode, 0}
		x.calls(k, hold.Others(k, client, mode))
	}
}

// request is P15.3.
func (x *telling) request(p api.Packet) {
	if p.Asked != 1 {
		x.sent = append(x.sent, failing(p, api.ErrBoot))
		return
	}
	client := uint32(p.From)
	var seat api.Packet
	for _, h := range x.now.Seats {
		if h.Client == client {
			seat = h.Reply
		}
	}
	begins := p.Life > seat.Life
	switch {
	case p.Life == 0 || p.Seq == 0 || p.Life < seat.Life:
		return
	case !begins && p.Seq == seat.Seq:
		x.sent = append(x.sent, seat)
		return
	case begins && p.Seq != 1 || !begins && uint64(p.Seq) != uint64(seat.Seq)+1:
		return
	}
	for _, w := range x.now.Works {
		if w.Client == client && (begins || w.Life == p.Life && w.Seq == p.Seq) {
			return
		}
	}
	s := clone(x.now)
	if begins {
		s.Opens, _ = share.Clear(s.Opens, client)
		for i, k := range s.Locks {
			s.Locks[i], _ = hold.Return(k, client, k.Epoch)
		}
		for file, q := range x.queues {
			x.queues[file] = slices.DeleteFunc(q, func(w place) bool { return w.client == client })
		}
	}
	d := &deed{x: x, p: p, client: client, s: s}
	o, e := d.do()
	if d.later {
		x.commit(d.s)
		return
	}
	answer := answering(p, o)
	if e != api.OK {
		answer = failing(p, e)
	}
	x.commit(seated(d.s, answer))
	x.sent = append(x.sent, answer)
	if d.file == 0 {
		return
	}
	x.queue(d.file, client, e)
	if e == api.OK {
		delete(x.recalls, d.file)
	}
	if d.met {
		x.recall(d.file, d.node, d.mode)
	}
}

// queue lets a client wait, or wait no more.
func (x *telling) queue(file, client uint32, e api.Errno) {
	q := x.queues[file]
	at := slices.IndexFunc(q, func(w place) bool { return w.client == client })
	switch {
	case e == api.OK && at >= 0:
		q = slices.Delete(q, at, at+1)
	case e == api.ErrDelay && at >= 0:
		q[at].age = 0
	case e == api.ErrDelay:
		q = append(q, place{client, 0})
	}
	x.queues[file] = q
}

// deed is an operation of P15.4.
type deed struct {
	x      *telling
	p      api.Packet
	client uint32
	s      api.State
	file   uint32
	met    bool
	node   uint32
	mode   uint32
	later  bool
}

// do does it.
func (d *deed) do() (api.Op, api.Errno) {
	var none api.Op
	o := d.p.Op
	switch o.Code {
	case 11:
		return d.open()
	case 12:
		opens, was, e := share.Drop(d.s.Opens, d.client, o.Handle)
		if e != api.OK {
			return none, e
		}
		d.s.Opens = opens
		if !share.Has(opens, d.client, was.File) {
			for i, k := range d.s.Locks {
				if k.File == was.File {
					d.s.Locks[i], _ = hold.Return(k, d.client, k.Epoch)
				}
			}
		}
		return none, api.OK
	case 13:
		if d.s.Next == top {
			return none, api.ErrMany
		}
		nodes, e := tree.Make(d.s.Tree, o.Path, d.s.Next, true)
		if e == api.OK {
			d.s.Tree, d.s.Next = nodes, d.s.Next+1
		}
		return none, e
	case 14:
		return d.remove()
	case 15, 16:
		nodes, _, e := tree.Remove(d.s.Tree, o.Path, true)
		if o.Code == 16 {
			nodes, e = tree.Rename(d.s.Tree, o.Path, o.Other)
		}
		if e == api.OK {
			d.s.Tree = nodes
		}
		return none, e
	case 17:
		names, e := tree.List(d.s.Tree, o.Path)
		return api.Op{Data: strings.Join(names, "/")}, e
	case 18:
		n, e := tree.Find(d.s.Tree, o.Path)
		if n.Dir {
			return api.Op{File: n.Id, Size: n.Size, Mode: 1}, e
		}
		return api.Op{File: n.Id, Size: n.Size}, e
	case 21:
		for i, k := range d.s.Locks {
			if k.File == o.File {
				d.s.Locks[i], _ = hold.Return(k, d.client, o.Epoch)
			}
		}
		return none, api.OK
	case 22:
		return d.grew()
	}
	return d.withHandle()
}

// open is OpOpen.
func (d *deed) open() (api.Op, api.Errno) {
	o, s := d.p.Op, clone(d.s)
	n, e := tree.Find(s.Tree, o.Path)
	if e == api.ErrNone && o.Mode>>2&1 == 1 {
		if len(s.Locks) == 40 || s.Next == top {
			return api.Op{}, api.ErrMany
		}
		s.Tree, e = tree.Make(s.Tree, o.Path, s.Next, false)
		n = api.Inode{Id: s.Next}
		s.Locks = append(s.Locks, hold.Fresh(s.Next))
		s.Next++
	}
	if e != api.OK {
		return api.Op{}, e
	}
	if n.Dir {
		return api.Op{}, api.ErrIsDir
	}
	s.Opens, e = share.Add(s.Opens, api.Open{Client: d.client, Handle: o.Handle, File: n.Id, Access: o.Mode % 4, Deny: o.Deny})
	if e != api.OK {
		return api.Op{}, e
	}
	d.s = s
	return api.Op{File: n.Id, Size: n.Size}, api.OK
}

// remove is OpRemove.
func (d *deed) remove() (api.Op, api.Errno) {
	nodes, n, e := tree.Remove(d.s.Tree, d.p.Op.Path, false)
	if e != api.OK {
		return api.Op{}, e
	}
	if share.Uses(d.s.Opens, n.Id) != 0 || workOf(d.s, n.Id) {
		return api.Op{}, api.ErrBusy
	}
	d.s.Tree = nodes
	k, _ := d.x.lock(n.Id)
	k, _ = hold.Drop(k)
	d.s = d.x.with(d.s, k)
	return api.Op{}, api.OK
}

// grew is OpGrew.
func (d *deed) grew() (api.Op, api.Errno) {
	o := d.p.Op
	for i, k := range d.s.Locks {
		if k.File != o.File || k.Epoch != o.Epoch || hold.Mode(k, d.client) != 2 {
			continue
		}
		if o.Size > 1024 {
			return api.Op{}, api.ErrBig
		}
		size := max(o.Size, d.x.size(d.s, o.File))
		d.s.Locks[i].Cut = max(o.Size, k.Cut)
		d.s = resized(d.s, o.File, size)
		return api.Op{Size: size}, api.OK
	}
	return api.Op{}, api.ErrRevoked
}

// withHandle is OpSize, OpGet, OpGive and OpTake.
func (d *deed) withHandle() (api.Op, api.Errno) {
	var none api.Op
	o := d.p.Op
	was, open := share.Find(d.s.Opens, d.client, o.Handle)
	bit := map[int]uint32{19: 2, 20: o.Mode, 23: 1, 24: 2}[o.Code]
	n := o.Len
	if o.Code == 24 {
		n = uint32(len(o.Data))
	}
	works := o.Code >= 23
	k, _ := d.x.lock(was.File)
	for i := range d.s.Locks {
		if d.s.Locks[i].File == was.File {
			k = d.s.Locks[i]
		}
	}
	switch {
	case !open:
		return none, api.ErrFd
	case o.Code == 20 && (o.Mode < 1 || o.Mode > 2):
		return none, api.ErrArg
	case was.Access&bit == 0:
		return none, api.ErrMode
	case o.Code == 19 && o.Size > 1024, works && n > 64, works && int64(n)+int64(o.Off) > 1024:
		return none, api.ErrBig
	case works && n == 0:
		return none, api.OK
	case works && workOf(d.s, was.File):
		return none, api.ErrDelay
	case works:
		w := api.Work{File: was.File, Client: d.client, Life: d.p.Life, Seq: d.p.Seq, Code: o.Code, Off: o.Off, Len: n}
		if o.Code == 24 {
			w.Data = o.Data
		}
		d.s.Works = append(d.s.Works, w)
		slices.SortFunc(d.s.Works, func(a, b api.Work) int { return cmp.Compare(a.File, b.File) })
		d.later = true
		return none, api.OK
	}
	d.file = was.File
	q := d.x.queues[was.File]
	if workOf(d.s, was.File) || len(q) > 0 && q[0].client != d.client {
		return none, api.ErrDelay
	}
	d.node, d.mode = 0, 2
	if o.Code == 20 {
		d.node, d.mode = d.client, o.Mode
	}
	k, told, _ := hold.Ask(k, d.node, d.mode)
	d.s = d.x.with(d.s, k)
	d.met = told == api.Conflict
	if told != api.Granted {
		return none, api.ErrDelay
	}
	if o.Code == 20 {
		return api.Op{File: was.File, Epoch: k.Epoch, Size: d.x.size(d.s, was.File), Mode: hold.Mode(k, d.client)}, api.OK
	}
	k, _ = hold.Shrink(k, o.Size)
	k, _ = hold.Revoke(k)
	d.s = resized(d.x.with(d.s, k), was.File, o.Size)
	return none, api.OK
}

// reply is P15.5.
func (x *telling) reply(p api.Packet) {
	l := &x.lines[p.From]
	if !l.out || p.Life != x.now.Boot || p.Asked != l.boot || p.Seq != l.seq {
		return
	}
	l.out = false
	if p.Boot != l.boot {
		l.boot, l.seq = p.Boot, 0
		for _, w := range x.begun {
			delete(w.told, p.From)
			delete(w.over, p.From)
		}
		return
	}
	o, e := l.o, p.Op.Err
	if o.Code <= 3 {
		w := x.begun[o.File]
		switch {
		case e == api.OK:
			w.told[p.From] = append(w.told[p.From], p.Op.Data)
		case w.e == api.OK && e == api.ErrFull:
			w.e = api.ErrFull
		case w.e == api.OK:
			w.e = api.ErrRevoked
		}
		w.over[p.From] = e != api.OK
		return
	}
	if e != api.OK {
		return
	}
	known := fact{file: o.File, epoch: o.Epoch, gone: o.Code == 5}
	all := true
	for server := 1; server <= x.servers; server++ {
		known.server = server
		if server == p.From {
			x.knows[known] = true
		}
		all = all && x.knows[known]
	}
	k, there := x.lock(o.File)
	switch {
	case !all || !there:
	case known.gone:
		s := clone(x.now)
		s.Locks = slices.DeleteFunc(s.Locks, func(k api.Lock) bool { return k.File == o.File })
		x.commit(s)
	case k.Epoch == o.Epoch && !k.Fenced && !k.Gone:
		k, _ = hold.Settle(k, o.Epoch, x.size(x.now, o.File))
		x.commit(x.with(x.now, k))
	}
}

// file's map.
func (x *telling) mapOf(file uint32) api.Map {
	return api.Map{Servers: x.servers, Unit: x.unit, Turn: int(file) % x.servers}
}

// parts are what the servers are asked for a work, byte by byte.
func (x *telling) parts(w api.Work) map[int][]api.Op {
	parts := map[int][]api.Op{}
	k, _ := x.lock(w.File)
	last := -1
	for i := range int(w.Len) {
		at := int(w.Off) + i
		if w.Code == 23 && at >= int(x.size(x.now, w.File)) {
			break
		}
		server, off, _ := stripe.Where(x.mapOf(w.File), at)
		if at/x.unit != last {
			o := api.Op{Code: 2, File: w.File, Epoch: k.Epoch, Off: uint32(off)}
			if w.Code == 24 {
				o.Code = 1
			}
			parts[server] = append(parts[server], o)
		}
		last = at / x.unit
		o := &parts[server][len(parts[server])-1]
		if w.Code == 24 {
			o.Data += w.Data[i : i+1]
		} else {
			o.Len++
		}
	}
	for server := range parts {
		if w.Code == 24 {
			parts[server] = append(parts[server], api.Op{Code: 3, File: w.File, Epoch: k.Epoch})
		}
	}
	return parts
}

// proceed is P15.6.
func (x *telling) proceed() {
	for _, w := range x.now.Works {
		if x.begun[w.File] != nil {
			continue
		}
		was, _ := x.lock(w.File)
		k, told, _ := hold.Ask(was, 0, 2)
		if k.Epoch != was.Epoch {
			x.commit(x.with(x.now, k))
		} else {
			x.now = x.with(x.now, k)
		}
		if told == api.Granted {
			x.begun[w.File] = &progress{map[int][]string{}, map[int]bool{}, api.OK}
			delete(x.recalls, w.File)
		}
		if told == api.Conflict {
			x.recall(w.File, 0, 2)
		}
	}
	for _, w := range x.now.Works {
		x.end(w)
	}
	for server := 1; server <= x.servers; server++ {
		o, due := x.due(server)
		if l := &x.lines[server]; !l.out && due {
			*l = line{l.boot, l.seq + 1, true, o, 1, 1}
			x.put(server)
		}
	}
}

// end ends a work, if it is finished.
func (x *telling) end(w api.Work) {
	g := x.begun[w.File]
	if g == nil {
		return
	}
	for server, part := range x.parts(w) {
		if !g.over[server] && len(g.told[server]) < len(part) {
			return
		}
	}
	s := clone(x.now)
	s.Works = slices.DeleteFunc(s.Works, func(v api.Work) bool { return v.File == w.File })
	k, _ := x.lock(w.File)
	k, _ = hold.Return(k, 0, k.Epoch)
	p := asking(int(w.Client), w.Life, w.Seq, api.Op{Code: w.Code})
	answer := failing(p, g.e)
	if g.e == api.OK && w.Code == 24 {
		end := w.Off + w.Len
		k.Cut = max(k.Cut, end)
		s = resized(s, w.File, max(end, x.size(s, w.File)))
		answer = answering(p, api.Op{Len: w.Len})
	}
	if g.e == api.OK && w.Code == 23 {
		data := x.assembled(w, g)
		answer = answering(p, api.Op{Len: uint32(len(data)), Data: data})
	}
	s = x.with(s, k)
	fits := w.Life > 0 && w.Seq == 1
	for _, h := range s.Seats {
		if h.Client == w.Client {
			fits = w.Life > h.Reply.Life && w.Seq == 1 || w.Life == h.Reply.Life && w.Life > 0 && uint64(w.Seq) == uint64(h.Reply.Seq)+1
		}
	}
	if fits {
		s = seated(s, answer)
	}
	x.commit(s)
	delete(x.begun, w.File)
	if fits {
		x.sent = append(x.sent, answer)
	}
}

// assembled are the bytes of a work that reads, unit by unit.
func (x *telling) assembled(w api.Work, g *progress) string {
	data, taken := "", map[int]int{}
	last := -1
	for at := w.Off; at < min(w.Off+w.Len, x.size(x.now, w.File)); at++ {
		if int(at)/x.unit == last {
			continue
		}
		last = int(at) / x.unit
		server, _, _ := stripe.Where(x.mapOf(w.File), int(at))
		data += g.told[server][taken[server]]
		taken[server]++
	}
	return data
}

// due is the first request that is due at a server.
func (x *telling) due(server int) (api.Op, bool) {
	for _, k := range x.now.Locks {
		if k.Gone {
			if !x.knows[fact{server, k.File, 0, true}] {
				return api.Op{Code: 5, File: k.File}, true
			}
			continue
		}
		if !k.Fenced && !x.knows[fact{server, k.File, k.Epoch, false}] {
			n, _ := stripe.Length(x.mapOf(k.File), server, int(k.Cut))
			return api.Op{Code: 4, File: k.File, Epoch: k.Epoch, Size: uint32(n)}, true
		}
		g := x.begun[k.File]
		if g == nil || g.over[server] {
			continue
		}
		for _, w := range x.now.Works {
			if part := x.parts(w)[server]; w.File == k.File && len(g.told[server]) < len(part) {
				return part[len(g.told[server])], true
			}
		}
	}
	return api.Op{}, false
}

// agree fails unless a server is as it is told to be.
func (x *telling) agree(t *testing.T, s *Server) {
	t.Helper()
	if s.Down() != x.down {
		t.Errorf("Down = %v", s.Down())
	}
	if got := s.State(); !ledger.Same(got, x.now) {
		t.Errorf("the state is %+v, want %+v", got, x.now)
	}
}
