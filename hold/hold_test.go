package hold

import (
	"fmt"
	"math"
	"math/rand"
	"slices"
	"testing"

	"lamella/api"
)

// top is the greatest number of a client, a file or an epoch.
const top = math.MaxUint32

// numbers are modes, clients, sizes or epochs: the least, the greatest, those at which something changes, some at which a narrower or a signed number would wrap round, and neighbours.
var numbers = []uint32{0, 1, 2, 3, 4, 5, 0x100, 0x101, 0x102, 1023, 1024, 1025, 0x10000, 0x10001, 0x10002, 0x7fffffff, 0x80000000, 0x80000001, 0x80000002, top - 1, top}

// Locks that are laid by hand.

// by are holders: a client and its mode, one behind the other.
func by(pairs ...uint32) []api.Holder {
	var l []api.Holder
	for i := 0; i+1 < len(pairs); i += 2 {
		l = append(l, api.Holder{Client: pairs[i], Mode: pairs[i+1]})
	}
	return l
}

// fenced is a lock that all data servers know, with these holders.
func fenced(epoch, used uint32, pairs ...uint32) api.Lock {
	return api.Lock{File: 7, Epoch: epoch, Used: used, Cut: 100, Fenced: true, Holders: by(pairs...)}
}

// bare is a lock that not all data servers know.
func bare(epoch, used uint32) api.Lock {
	return api.Lock{File: 7, Epoch: epoch, Used: used, Cut: 100}
}

// gone is a lock of a file that is no more.
func gone(epoch, used uint32, fenced bool) api.Lock {
	return api.Lock{File: 7, Epoch: epoch, Used: used, Cut: 100, Fenced: fenced, Gone: true}
}

// cut is a lock with another Cut.
func cut(l api.Lock, size uint32) api.Lock {
	l.Cut = size
	return l
}

// changed is a copy of a lock, with memory of its own, in which something is changed.
func changed(l api.Lock, change func(l *api.Lock)) api.Lock {
	l.Holders = slices.Clone(l.Holders)
	change(&l)
	return l
}

// equal says whether two locks are.
func equal(a, b api.Lock) bool {
	return a.File == b.File && a.Epoch == b.Epoch && a.Used == b.Used && a.Cut == b.Cut &&
		a.Fenced == b.Fenced && a.Gone == b.Gone && slices.Equal(a.Holders, b.Holders)
}

// A second telling of locks: without an order, and readers apart from writers.

// telling is what a lock says.
type telling struct {
	file, epoch, used, cut uint32
	fenced, gone           bool
	readers, writers       map[uint32]bool
}

// reasons are those for which a lock is not valid: a reading of the chapter's definition.
func reasons(l api.Lock) []string {
	var why []string
	add := func(is bool, reason string) {
		if is && !slices.Contains(why, reason) {
			why = append(why, reason)
		}
	}
	n := len(l.Holders)
	add(l.Used != 0 && l.Used != 1 && l.Used != 2, "used")
	add(n > 4, "many")
	for i, h := range l.Holders[:min(n, 20)] {
		for _, g := range l.Holders[:i] {
			add(g.Client == h.Client, "twice")
			add(g.Client > h.Client, "falls")
		}
		add(h.Mode != 1 && h.Mode != 2, "mode")
		add(h.Mode > l.Used, "greater")
		add(h.Mode == 2 && n >= 2, "beside")
	}
	add(n >= 1 && !l.Fenced, "unfenced")
	add(n >= 1 && l.Gone, "gone")
	add(l.Cut > 1024, "cut")
	return why
}

// told is what a lock that is valid says.
func told(l api.Lock) telling {
	x := telling{l.File, l.Epoch, l.Used, l.Cut, l.Fenced, l.Gone, map[uint32]bool{}, map[uint32]bool{}}
	for _, h := range l.Holders {
		if h.Mode == 2 {
			x.writers[h.Client] = true
		} else {
			x.readers[h.Client] = true
		}
	}
	return x
}

// lock is the lock that says this.
func (x telling) lock() api.Lock {
	l := api.Lock{File: x.file, Epoch: x.epoch, Used: x.used, Cut: x.cut, Fenced: x.fenced, Gone: x.gone}
	for client := range x.readers {
		l.Holders = append(l.Holders, api.Holder{Client: client, Mode: 1})
	}
	for client := range x.writers {
		l.Holders = append(l.Holders, api.Holder{Client: client, Mode: 2})
	}
	slices.SortFunc(l.Holders, func(a, b api.Holder) int { return int(int64(a.Client) - int64(b.Client)) })
	return l
}

// with is a copy of a set with a client.
func with(set map[uint32]bool, client uint32) map[uint32]bool {
	m := map[uint32]bool{client: true}
	for c := range set {
		m[c] = true
	}
	return m
}

// but is a copy of a set without a client.
func but(set map[uint32]bool, client uint32) map[uint32]bool {
	m := map[uint32]bool{}
	for c := range set {
		if c != client {
			m[c] = true
		}
	}
	return m
}

// turned is a reading of turning.
func (x telling) turned() telling {
	if x.epoch == 4294967295 {
		return x
	}
	return telling{x.file, x.epoch + 1, 0, x.cut, false, x.gone, nil, nil}
}

// mode is a reading of Mode.
func (x telling) mode(client uint32) uint32 {
	switch {
	case x.writers[client]:
		return 2
	case x.readers[client]:
		return 1
	}
	return 0
}

// others is a reading of Others.
func (x telling) others(client, mode uint32) []uint32 {
	var l []uint32
	for c := range x.writers {
		l = append(l, c)
	}
	for c := range x.readers {
		if mode != 1 {
			l = append(l, c)
		}
	}
	l = slices.DeleteFunc(l, func(c uint32) bool { return c == client })
	slices.Sort(l)
	return l
}

// asked is a reading of Ask, of a mode that is one.
func (x telling) asked(client, mode uint32) (telling, int) {
	if x.gone {
		return x, 4
	}
	if len(x.others(client, mode)) > 0 {
		return x, 2
	}
	if x.writers[client] || x.readers[client] && mode == 1 {
		return x, 1
	}
	x.readers = but(x.readers, client)
	if !x.fenced {
		return x, 3
	}
	if mode == 1 && x.used < 2 || x.used == 0 {
		if len(x.readers)+len(x.writers) == 4 {
			return x, 2
		}
		if mode == 1 {
			x.readers, x.used = with(x.readers, client), max(x.used, 1)
		} else {
			x.writers, x.used = with(x.writers, client), 2
		}
		return x, 1
	}
	return x.turned(), 3
}

// returned is a reading of Return.
func (x telling) returned(client, epoch uint32) telling {
	if epoch == x.epoch {
		x.readers, x.writers = but(x.readers, client), but(x.writers, client)
	}
	return x
}

// settled is a reading of Settle, of a size that may be.
func (x telling) settled(epoch, size uint32) telling {
	if !x.fenced && epoch == x.epoch {
		x.fenced, x.cut = true, size
	}
	return x
}

// shrunk is a reading of Shrink.
func (x telling) shrunk(size uint32) telling {
	if size < x.cut {
		x.cut = size
	}
	return x
}

// dropped is a reading of Drop.
func (x telling) dropped() telling {
	x = x.turned()
	x.gone, x.cut, x.readers, x.writers = true, 0, nil, nil
	return x
}

// Locks and calls by the many.

// companies are holders such as a lock may have, if its Used and its flags are so.
func companies() [][]api.Holder {
	return [][]api.Holder{
		nil, {},
		by(0, 1), by(1, 1), by(5, 1), by(top, 1),
		by(0, 2), by(1, 2), by(5, 2), by(top, 2),
		by(0, 1, 1, 1), by(1, 1, top, 1), by(17, 1, 18, 1), by(0x7fffffff, 1, 0x80000000, 1),
		by(0, 1, 1, 1, top, 1), by(3, 1, 5, 1, 9, 1),
		by(0, 1, 1, 1, 2, 1, top, 1), by(3, 1, 5, 1, 7, 1, 9, 1), by(top-3, 1, top-2, 1, top-1, 1, top, 1), by(17, 1, 18, 1, 19, 1, 20, 1),
	}
}

// places are files and epochs.
func places() [][2]uint32 {
	return [][2]uint32{{0, 1}, {1, 0}, {7, 9}, {9, 7}, {top, 1}, {1, top - 1}, {top, top}, {0, 0x7fffffff}, {0, top}}
}

// locks are locks that are valid: with each Used, fenced or not, gone or not, at the edges of their numbers, with none up to 4 holders.
func locks() []api.Lock {
	var all []api.Lock
	for _, p := range places() {
		for used := range uint32(3) {
			for _, size := range []uint32{0, 1, 500, 1023, 1024} {
				for flags := range 4 {
					for _, company := range companies() {
						l := api.Lock{File: p[0], Epoch: p[1], Used: used, Cut: size, Fenced: flags&1 > 0, Gone: flags&2 > 0, Holders: company}
						if len(reasons(l)) == 0 {
							all = append(all, l)
						}
					}
				}
			}
		}
	}
	return all
}

// few are some of them.
func few() []api.Lock {
	var some []api.Lock
	for _, l := range locks() {
		if l.Cut == 500 {
			some = append(some, l)
		}
	}
	return some
}

// clients are those of a lock, their neighbours, and others.
func clients(l api.Lock) []uint32 {
	all := []uint32{0, 1, 6, 19, top}
	for _, h := range l.Holders {
		all = append(all, h.Client, h.Client-1, h.Client+1)
	}
	slices.Sort(all)
	return slices.Compact(all)
}

// around are numbers at a number, and the least and the greatest.
func around(n uint32) []uint32 {
	all := []uint32{n - 1, n, n + 1, 0, 1, top}
	slices.Sort(all)
	return slices.Compact(all)
}

// call is a call with its arguments but the lock, and a reading of it.
type call struct {
	what string
	do   func(l api.Lock) (api.Lock, int, api.Errno)
	read func(x telling) (telling, int)
}

// ask is a call of Ask.
func ask(client, mode uint32) call {
	return call{fmt.Sprintf("Ask(%d, %d)", client, mode),
		func(l api.Lock) (api.Lock, int, api.Errno) { return Ask(l, client, mode) },
		func(x telling) (telling, int) { return x.asked(client, mode) }}
}

// plain is a call that answers a lock and an error.
func plain(what string, do func(l api.Lock) (api.Lock, api.Errno), read func(x telling) telling) call {
	return call{what,
		func(l api.Lock) (api.Lock, int, api.Errno) {
			now, err := do(l)
			return now, 0, err
		},
		func(x telling) (telling, int) { return read(x), 0 }}
}

// giveBack is a call of Return.
func giveBack(client, epoch uint32) call {
	return plain(fmt.Sprintf("Return(%d, %d)", client, epoch),
		func(l api.Lock) (api.Lock, api.Errno) { return Return(l, client, epoch) },
		func(x telling) telling { return x.returned(client, epoch) })
}

// revoke is a call of Revoke.
func revoke() call { return plain("Revoke", Revoke, telling.turned) }

// settle is a call of Settle.
func settle(epoch, size uint32) call {
	return plain(fmt.Sprintf("Settle(%d, %d)", epoch, size),
		func(l api.Lock) (api.Lock, api.Errno) { return Settle(l, epoch, size) },
		func(x telling) telling { return x.settled(epoch, size) })
}

// shrink is a call of Shrink.
func shrink(size uint32) call {
	return plain(fmt.Sprintf("Shrink(%d)", size),
		func(l api.Lock) (api.Lock, api.Errno) { return Shrink(l, size) },
		func(x telling) telling { return x.shrunk(size) })
}

// drop is a call of Drop.
func drop() call { return plain("Drop", Drop, telling.dropped) }

// asks are calls of Ask, by the clients of a lock and others, for both modes.
func asks(l api.Lock) []call {
	var all []call
	for _, client := range clients(l) {
		all = append(all, ask(client, 1), ask(client, 2))
	}
	return all
}

// returns are calls of Return, in the lock's epoch and in others.
func returns(l api.Lock) []call {
	var all []call
	for _, client := range clients(l) {
		for _, epoch := range around(l.Epoch) {
			all = append(all, giveBack(client, epoch))
		}
	}
	return all
}

// settles are calls of Settle that are no error, in the lock's epoch and in others.
func settles(l api.Lock) []call {
	var all []call
	for _, epoch := range around(l.Epoch) {
		for _, size := range append(around(l.Cut), 1023, 1024) {
			if size <= 1024 {
				all = append(all, settle(epoch, size))
			}
		}
	}
	return all
}

// shrinks are calls of Shrink.
func shrinks(l api.Lock) []call {
	var all []call
	for _, size := range append(around(l.Cut), numbers...) {
		all = append(all, shrink(size))
	}
	return all
}

// calls are all of these that are no error.
func calls(l api.Lock) []call {
	return slices.Concat(asks(l), returns(l), settles(l), shrinks(l), []call{revoke(), drop()})
}

// What is wrong.

// breaker makes a lock invalid.
type breaker struct {
	reason string
	do     func(l *api.Lock)
}

// breakers make a lock, fenced and with a holder or two, invalid, for each reason at least once.
func breakers() []breaker {
	first := func(l *api.Lock) *api.Holder { return &l.Holders[0] }
	last := func(l *api.Lock) *api.Holder { return &l.Holders[len(l.Holders)-1] }
	more := func(l *api.Lock, pairs ...uint32) { l.Holders = append(l.Holders, by(pairs...)...) }
	all := []breaker{
		{"used", func(l *api.Lock) { l.Used = 3 }},
		{"used", func(l *api.Lock) { l.Used = top }},
		{"used", func(l *api.Lock) { l.Used = 0x102 }},
		{"used", func(l *api.Lock) { l.Used = 0x80000001 }},
		{"many", func(l *api.Lock) { more(l, 50, 1, 51, 1, 52, 1, 53, 1) }},
		{"falls", func(l *api.Lock) { more(l, 1, 1) }},
		{"falls", func(l *api.Lock) { more(l, last(l).Client-1, 1) }},
		{"falls", func(l *api.Lock) { last(l).Client = 0x80000000; more(l, 0x7fffffff, 1) }},
		{"falls", func(l *api.Lock) { last(l).Client = top; more(l, 0, 1) }},
		{"falls", func(l *api.Lock) { more(l, top, 1, 60, 1) }},
		{"twice", func(l *api.Lock) { more(l, last(l).Client, last(l).Mode) }},
		{"twice", func(l *api.Lock) { last(l).Client = top; more(l, top, 1) }},
		{"twice", func(l *api.Lock) { more(l, 60, 1, 60, 1) }},
		{"mode", func(l *api.Lock) { first(l).Mode = 0 }},
		{"mode", func(l *api.Lock) { last(l).Mode = 0 }},
		{"mode", func(l *api.Lock) { more(l, 60, 0) }},
		{"mode", func(l *api.Lock) { first(l).Mode = 3 }},
		{"mode", func(l *api.Lock) { last(l).Mode = top }},
		{"mode", func(l *api.Lock) { more(l, 60, 0x101) }},
		{"greater", func(l *api.Lock) { l.Used = 0 }},
		{"greater", func(l *api.Lock) { l.Used, l.Holders = 1, by(last(l).Client, 2) }},
		{"beside", func(l *api.Lock) { l.Used = 2; more(l, 60, 2) }},
		{"beside", func(l *api.Lock) { l.Used = 2; first(l).Mode = 2; more(l, 60, 1) }},
		{"beside", func(l *api.Lock) { l.Used = 2; more(l, 60, 2, 61, 1) }},
		{"beside", func(l *api.Lock) { l.Used = 2; first(l).Mode = 2; more(l, 60, 2) }},
		{"unfenced", func(l *api.Lock) { l.Fenced = false }},
		{"gone", func(l *api.Lock) { l.Gone = true }},
	}
	for _, size := range numbers {
		if size > 1024 {
			all = append(all, breaker{"cut", func(l *api.Lock) { l.Cut = size }})
		}
	}
	return all
}

// bases are locks that breakers make invalid.
func bases() []api.Lock {
	return []api.Lock{
		fenced(9, 1, 5, 1), fenced(9, 2, 5, 1), cut(fenced(top, 1, 5, 1), 0), cut(fenced(0, 1, 5, 1), 1024), fenced(1, 2, 5, 2),
		fenced(9, 1, 5, 1, 8, 1), fenced(9, 2, 5, 1, 8, 1), fenced(top, 2, 5, 1, 8, 1), fenced(0, 1, 5, 1, 8, 1),
	}
}

// wrongLock is a lock that is not valid, and why.
type wrongLock struct {
	why  string
	lock api.Lock
}

// wrongLocks are locks that are not valid: for one reason, and for several.
func wrongLocks() []wrongLock {
	all := []wrongLock{
		{"used", changed(Fresh(7), func(l *api.Lock) { l.Used = 3 })},
		{"used, gone", changed(gone(9, 0, false), func(l *api.Lock) { l.Used = top })},
		{"cut, gone", cut(gone(9, 0, false), 1025)},
		{"cut, gone, fenced", cut(gone(9, 1, true), top)},
		{"cut, not fenced", cut(bare(1, 0), 1025)},
		{"a holder, nothing else", api.Lock{Holders: by(0, 0)}},
		{"very many holders", changed(fenced(9, 1), func(l *api.Lock) { l.Holders = make([]api.Holder, 100000) })},
		{"5, the greatest", fenced(9, 1, top-4, 1, top-3, 1, top-2, 1, top-1, 1, top, 1)},
		{"4, two of them write", fenced(9, 2, 1, 2, 2, 1, 3, 1, 4, 2)},
		{"4, the last one twice", fenced(9, 1, 1, 1, 2, 1, 3, 1, 3, 1)},
		{"4, the first one last", fenced(9, 1, 2, 1, 3, 1, 4, 1, 1, 1)},
		{"4, the middle falls", fenced(9, 1, 1, 1, 3, 1, 2, 1, 4, 1)},
		{"twice, apart", fenced(9, 1, 3, 1, 5, 1, 3, 1)},
		{"twice, in both modes", fenced(9, 2, 3, 1, 3, 2)},
	}
	for i, base := range bases() {
		for j, b := range breakers() {
			one := changed(base, b.do)
			all = append(all, wrongLock{fmt.Sprintf("base %d, breaker %d (%s)", i, j, b.reason), one})
			for k, c := range breakers() {
				both := changed(one, c.do)
				all = append(all, wrongLock{fmt.Sprintf("base %d, breakers %d (%s) and %d (%s)", i, j, b.reason, k, c.reason), both})
			}
		}
	}
	return slices.DeleteFunc(all, func(w wrongLock) bool { return len(reasons(w.lock)) == 0 })
}

// P12.1: Right, Fresh, Mode and Others.

func TestRightOfLocks(t *testing.T) {
	for _, l := range locks() {
		if !Right(l) {
			t.Errorf("Right(%v) = false", l)
		}
	}
	for _, w := range wrongLocks() {
		if Right(w.lock) {
			t.Errorf("%s: Right(%v) = true, in spite of %v", w.why, w.lock.Holders[:min(9, len(w.lock.Holders))], reasons(w.lock))
		}
	}
}

func TestRightByHand(t *testing.T) {
	for _, c := range []struct {
		why  string
		lock api.Lock
		want bool
	}{
		{"the zero lock", api.Lock{}, true},
		{"the greatest numbers", api.Lock{File: top, Epoch: top, Used: 2, Cut: 1024, Fenced: true, Holders: by(top, 2)}, true},
		{"no holders, in memory", api.Lock{Holders: []api.Holder{}}, true},
		{"used, not fenced", bare(9, 2), true},
		{"used, gone", gone(9, 2, true), true},
		{"4 readers", fenced(9, 1, 1, 1, 2, 1, 3, 1, 4, 1), true},
		{"5 readers", fenced(9, 1, 1, 1, 2, 1, 3, 1, 4, 1, 5, 1), false},
		{"4 readers, written", fenced(9, 2, 1, 1, 2, 1, 3, 1, 4, 1), true},
		{"a writer", fenced(9, 2, 1, 2), true},
		{"a writer, read only", fenced(9, 1, 1, 2), false},
		{"a writer, nothing granted", fenced(9, 0, 1, 2), false},
		{"a reader, nothing granted", fenced(9, 0, 1, 1), false},
		{"a writer first", fenced(9, 2, 1, 2, 2, 1), false},
		{"a writer last", fenced(9, 2, 1, 1, 2, 2), false},
		{"two writers", fenced(9, 2, 1, 2, 2, 2), false},
		{"the mode 0", fenced(9, 2, 1, 0), false},
		{"the mode 3", fenced(9, 2, 1, 3), false},
		{"the mode 3, used 3", fenced(9, 3, 1, 3), false},
		{"used 3", fenced(9, 3), false},
		{"a client twice", fenced(9, 1, 1, 1, 1, 1), false},
		{"clients that fall", fenced(9, 1, 2, 1, 1, 1), false},
		{"clients as signed numbers", fenced(9, 1, 0x80000000, 1, 1, 1), false},
		{"rising, as unsigned numbers", fenced(9, 1, 1, 1, 0x80000000, 1), true},
		{"a reader, not fenced", changed(bare(9, 1), func(l *api.Lock) { l.Holders = by(1, 1) }), false},
		{"a reader, gone", changed(gone(9, 1, true), func(l *api.Lock) { l.Holders = by(1, 1) }), false},
		{"the cut 1024", cut(bare(9, 0), 1024), true},
		{"the cut 1025", cut(bare(9, 0), 1025), false},
	} {
		if Right(c.lock) != c.want || (len(reasons(c.lock)) == 0) != c.want {
			t.Errorf("%s: Right(%v) = %v, want %v; the reading finds %v", c.why, c.lock, Right(c.lock), c.want, reasons(c.lock))
		}
	}
}

func TestRightAgainstAReading(t *testing.T) {
	var all [][]api.Holder
	for _, mode := range []uint32{0, 1, 2, 3, 0x101, top} {
		all = append(all, by(5, mode), by(0, mode), by(5, mode, 6, 1), by(5, 1, 6, mode), by(5, 1, 6, 1, 7, mode), by(5, 1, 6, mode, 7, 1), by(5, 1, 6, 1, 7, 1, 8, mode), by(5, 1, 6, 1, 7, 1, 8, 1, 9, mode), by(6, mode, 5, 1), by(5, mode, 5, 1), by(5, 1, 6, mode, 6, 1))
	}
	seen := map[bool]int{}
	for _, company := range append(all, companies()...) {
		for _, used := range numbers {
			for _, size := range numbers {
				for flags := range 4 {
					l := api.Lock{File: 7, Epoch: 9, Used: used, Cut: size, Fenced: flags&1 > 0, Gone: flags&2 > 0, Holders: company}
					want := len(reasons(l)) == 0
					seen[want]++
					if Right(l) != want {
						t.Fatalf("Right(%v) = %v, and the reading finds %v", l, !want, reasons(l))
					}
				}
			}
		}
	}
	if seen[true] < 500 || seen[false] < 500 {
		t.Errorf("too few locks: %v", seen)
	}
}

// TestReasonsAreAllAsked holds the wrong locks of these tests to it that each reason comes alone, and together with each other one.
func TestReasonsAreAllAsked(t *testing.T) {
	seen := map[string]bool{}
	for _, w := range wrongLocks() {
		all := reasons(w.lock)
		for _, a := range all {
			for _, b := range all {
				seen[a+" "+b] = true
			}
		}
		if len(all) == 1 {
			seen["only "+all[0]] = true
		}
	}
	kinds := []string{"used", "many", "falls", "twice", "mode", "greater", "beside", "unfenced", "gone", "cut"}
	for _, a := range kinds {
		if !seen["only "+a] {
			t.Errorf("no lock is wrong for %s alone", a)
		}
		for _, b := range kinds {
			if !seen[a+" "+b] {
				t.Errorf("no lock is wrong for %s and %s", a, b)
			}
		}
	}
}

func TestFresh(t *testing.T) {
	for _, file := range numbers {
		l := Fresh(file)
		if !equal(l, api.Lock{File: file, Epoch: 1}) || !Right(l) {
			t.Errorf("Fresh(%d) = %v, Right = %v", file, l, Right(l))
		}
	}
}

func TestModeAndOthersByHand(t *testing.T) {
	three := fenced(9, 1, 3, 1, 5, 1, 9, 1)
	ends := fenced(9, 2, 0, 1, top, 1)
	for _, c := range []struct {
		why           string
		lock          api.Lock
		client        uint32
		mode          uint32
		reads, writes []uint32
	}{
		{"fresh", Fresh(7), 1, 0, nil, nil},
		{"nobody", fenced(9, 2), 0, 0, nil, nil},
		{"gone", gone(9, 2, true), 0, 0, nil, nil},
		{"a reader itself", fenced(9, 1, 5, 1), 5, 1, nil, nil},
		{"beside a reader", fenced(9, 1, 5, 1), 4, 0, nil, []uint32{5}},
		{"a writer itself", fenced(9, 2, 5, 2), 5, 2, nil, nil},
		{"beside a writer", fenced(9, 2, 5, 2), 6, 0, []uint32{5}, []uint32{5}},
		{"beside the writer 0", fenced(9, 2, 0, 2), 1, 0, []uint32{0}, []uint32{0}},
		{"beside the greatest writer", fenced(9, 2, top, 2), 1, 0, []uint32{top}, []uint32{top}},
		{"the first of three", three, 3, 1, nil, []uint32{5, 9}},
		{"the middle one", three, 5, 1, nil, []uint32{3, 9}},
		{"the last one", three, 9, 1, nil, []uint32{3, 5}},
		{"ahead of three", three, 0, 0, nil, []uint32{3, 5, 9}},
		{"between three", three, 4, 0, nil, []uint32{3, 5, 9}},
		{"between three, later", three, 6, 0, nil, []uint32{3, 5, 9}},
		{"behind three", three, top, 0, nil, []uint32{3, 5, 9}},
		{"0 of the two ends", ends, 0, 1, nil, []uint32{top}},
		{"the other end", ends, top, 1, nil, []uint32{0}},
		{"between the ends", ends, 1, 0, nil, []uint32{0, top}},
		{"one of 4", fenced(9, 1, 1, 1, 2, 1, 3, 1, 4, 1), 2, 1, nil, []uint32{1, 3, 4}},
		{"a fifth", fenced(9, 1, 1, 1, 2, 1, 3, 1, 4, 1), 5, 0, nil, []uint32{1, 2, 3, 4}},
	} {
		if m := Mode(c.lock, c.client); m != c.mode {
			t.Errorf("%s: Mode = %d, want %d", c.why, m, c.mode)
		}
		if l := Others(c.lock, c.client, 1); !slices.Equal(l, c.reads) {
			t.Errorf("%s: Others for 1 = %d, want %d", c.why, l, c.reads)
		}
		// Whatever is no HoldRead conflicts with all holds, also what is no mode.
		for _, mode := range numbers {
			if l := Others(c.lock, c.client, mode); mode != 1 && !slices.Equal(l, c.writes) {
				t.Errorf("%s: Others for %d = %d, want %d", c.why, mode, l, c.writes)
			}
		}
	}
}

func TestModeAndOthersAgainstAReading(t *testing.T) {
	for _, l := range locks() {
		x := told(l)
		for _, client := range clients(l) {
			if m := Mode(l, client); m != x.mode(client) {
				t.Fatalf("Mode(%v, %d) = %d, want %d", l, client, m, x.mode(client))
			}
			for _, mode := range []uint32{0, 1, 2, 3, 0x101, top} {
				if all := Others(l, client, mode); !slices.Equal(all, x.others(client, mode)) {
					t.Fatalf("Others(%v, %d, %d) = %d, want %d", l, client, mode, all, x.others(client, mode))
				}
			}
		}
	}
}

func TestModeAndOthersOfWrongLocks(t *testing.T) {
	for _, w := range wrongLocks() {
		l := w.lock
		l.Holders = l.Holders[:min(len(l.Holders), 9)]
		for _, client := range clients(l) {
			if m := Mode(w.lock, client); m != 0 {
				t.Fatalf("%s: Mode for %d = %d", w.why, client, m)
			}
			for _, mode := range []uint32{0, 1, 2, 3, top} {
				if all := Others(w.lock, client, mode); len(all) > 0 {
					t.Fatalf("%s: Others for %d, %d = %d", w.why, client, mode, all)
				}
			}
		}
	}
}

// P12.2: Ask.

// asking is a call of Ask, and what it is to answer.
type asking struct {
	why          string
	lock         api.Lock
	client, mode uint32
	answer       int
	want         api.Lock
}

// check fails unless Ask answers what is wanted.
func (c asking) check(t *testing.T) {
	t.Helper()
	now, answer, err := Ask(c.lock, c.client, c.mode)
	if err != api.OK || answer != c.answer || !equal(now, c.want) {
		t.Errorf("%s: Ask(%v, %d, %d) = %v, %d, %d, want %v, %d", c.why, c.lock, c.client, c.mode, now, answer, err, c.want, c.answer)
	}
}

func TestAskGranted(t *testing.T) {
	one, three := fenced(9, 1, 5, 1), fenced(9, 1, 3, 1, 5, 1, 8, 1)
	for _, c := range []asking{
		{"the first reader", fenced(1, 0), 5, 1, api.Granted, fenced(1, 1, 5, 1)},
		{"the first writer", fenced(1, 0), 5, 2, api.Granted, fenced(1, 2, 5, 2)},
		{"the client 0 reads", fenced(9, 0), 0, 1, api.Granted, fenced(9, 1, 0, 1)},
		{"the client 0 writes", fenced(9, 0), 0, 2, api.Granted, fenced(9, 2, 0, 2)},
		{"the greatest client reads", fenced(9, 0), top, 1, api.Granted, fenced(9, 1, top, 1)},
		{"the greatest client writes", fenced(9, 0), top, 2, api.Granted, fenced(9, 2, top, 2)},
		{"at the epoch 0", fenced(0, 0), 5, 2, api.Granted, fenced(0, 2, 5, 2)},
		{"to read, at the last epoch", fenced(top, 0), 5, 1, api.Granted, fenced(top, 1, 5, 1)},
		{"to write, at the last epoch", fenced(top, 0), 5, 2, api.Granted, fenced(top, 2, 5, 2)},
		{"beside another, at the last epoch", fenced(top, 1, 5, 1), 6, 1, api.Granted, fenced(top, 1, 5, 1, 6, 1)},
		{"with the cut 0", cut(fenced(9, 0), 0), 5, 1, api.Granted, cut(fenced(9, 1, 5, 1), 0)},
		{"with the greatest cut", cut(fenced(9, 0), 1024), 5, 2, api.Granted, cut(fenced(9, 2, 5, 2), 1024)},
		{"a reader where all gave back", fenced(9, 1), 5, 1, api.Granted, fenced(9, 1, 5, 1)},
		{"a reader ahead of one", one, 4, 1, api.Granted, fenced(9, 1, 4, 1, 5, 1)},
		{"a reader behind one", one, 6, 1, api.Granted, fenced(9, 1, 5, 1, 6, 1)},
		{"0 ahead of one", one, 0, 1, api.Granted, fenced(9, 1, 0, 1, 5, 1)},
		{"the greatest behind one", one, top, 1, api.Granted, fenced(9, 1, 5, 1, top, 1)},
		{"the fourth, ahead", three, 1, 1, api.Granted, fenced(9, 1, 1, 1, 3, 1, 5, 1, 8, 1)},
		{"the fourth, between", three, 4, 1, api.Granted, fenced(9, 1, 3, 1, 4, 1, 5, 1, 8, 1)},
		{"the fourth, between, later", three, 7, 1, api.Granted, fenced(9, 1, 3, 1, 5, 1, 7, 1, 8, 1)},
		{"the fourth, behind", three, 9, 1, api.Granted, fenced(9, 1, 3, 1, 5, 1, 8, 1, 9, 1)},
	} {
		c.check(t)
	}
}

// kept are calls of Ask that change nothing, and their answers.
func kept() []asking {
	three, four := fenced(9, 1, 3, 1, 5, 1, 8, 1), fenced(9, 1, 1, 1, 3, 1, 5, 1, 8, 1)
	return []asking{
		{why: "a reader asks to read", lock: fenced(9, 1, 5, 1), client: 5, mode: 1, answer: api.Granted},
		{why: "the first of three asks to read", lock: three, client: 3, mode: 1, answer: api.Granted},
		{why: "the middle one asks to read", lock: three, client: 5, mode: 1, answer: api.Granted},
		{why: "the last one asks to read", lock: three, client: 8, mode: 1, answer: api.Granted},
		{why: "one of four asks to read", lock: four, client: 5, mode: 1, answer: api.Granted},
		{why: "the first of four asks to read", lock: four, client: 1, mode: 1, answer: api.Granted},
		{why: "the last of four asks to read", lock: four, client: 8, mode: 1, answer: api.Granted},
		{why: "a writer asks to write", lock: fenced(9, 2, 5, 2), client: 5, mode: 2, answer: api.Granted},
		{why: "a writer asks to read", lock: fenced(9, 2, 5, 2), client: 5, mode: 1, answer: api.Granted},
		{why: "the writer 0 asks to read", lock: fenced(9, 2, 0, 2), client: 0, mode: 1, answer: api.Granted},
		{why: "the greatest writer asks to write", lock: fenced(9, 2, top, 2), client: top, mode: 2, answer: api.Granted},
		{why: "a reader asks to read, at the last epoch", lock: fenced(top, 1, 5, 1), client: 5, mode: 1, answer: api.Granted},
		{why: "a writer asks to read, at the last epoch", lock: fenced(top, 2, 5, 2), client: 5, mode: 1, answer: api.Granted},
		{why: "a reader asks to read where was written: not Wait", lock: fenced(9, 2, 5, 1, 6, 1), client: 5, mode: 1, answer: api.Granted},
		{why: "the only reader asks to read where was written: not Wait", lock: fenced(9, 2, 5, 1), client: 5, mode: 1, answer: api.Granted},

		{why: "to write beside a reader: not Wait", lock: fenced(9, 1, 5, 1), client: 4, mode: 2, answer: api.Conflict},
		{why: "to write beside three", lock: three, client: 4, mode: 2, answer: api.Conflict},
		{why: "to write beside four", lock: four, client: 4, mode: 2, answer: api.Conflict},
		{why: "to write beside a writer", lock: fenced(9, 2, 5, 2), client: 4, mode: 2, answer: api.Conflict},
		{why: "to read beside a writer: not Wait", lock: fenced(9, 2, 5, 2), client: 6, mode: 1, answer: api.Conflict},
		{why: "0 reads beside a writer", lock: fenced(9, 2, 5, 2), client: 0, mode: 1, answer: api.Conflict},
		{why: "the greatest reads beside a writer", lock: fenced(9, 2, 5, 2), client: top, mode: 1, answer: api.Conflict},
		{why: "to read beside the writer 0", lock: fenced(9, 2, 0, 2), client: 1, mode: 1, answer: api.Conflict},
		{why: "the first of two readers asks to write", lock: fenced(9, 1, 5, 1, 8, 1), client: 5, mode: 2, answer: api.Conflict},
		{why: "the last of two readers asks to write", lock: fenced(9, 1, 5, 1, 8, 1), client: 8, mode: 2, answer: api.Conflict},
		{why: "the middle one of three asks to write", lock: three, client: 5, mode: 2, answer: api.Conflict},
		{why: "to write beside a reader where was written: not Wait", lock: fenced(9, 2, 5, 1), client: 4, mode: 2, answer: api.Conflict},
		{why: "one of two readers asks to write where was written", lock: fenced(9, 2, 5, 1, 8, 1), client: 5, mode: 2, answer: api.Conflict},
		{why: "a reader beside four, ahead", lock: four, client: 0, mode: 1, answer: api.Conflict},
		{why: "a reader beside four, between", lock: four, client: 4, mode: 1, answer: api.Conflict},
		{why: "a reader beside four, behind", lock: four, client: top, mode: 1, answer: api.Conflict},
		{why: "to write beside a reader, at the last epoch", lock: fenced(top, 1, 5, 1), client: 4, mode: 2, answer: api.Conflict},
		{why: "to read beside a writer, at the last epoch", lock: fenced(top, 2, 5, 2), client: 4, mode: 1, answer: api.Conflict},
		{why: "one of two readers asks to write, at the last epoch", lock: fenced(top, 1, 5, 1, 8, 1), client: 5, mode: 2, answer: api.Conflict},

		{why: "fresh, to read", lock: Fresh(7), client: 5, mode: 1, answer: api.Wait},
		{why: "fresh, to write", lock: Fresh(7), client: 5, mode: 2, answer: api.Wait},
		{why: "not fenced, at the epoch 0", lock: bare(0, 0), client: 5, mode: 2, answer: api.Wait},
		{why: "not fenced, at the last epoch", lock: bare(top, 0), client: 5, mode: 1, answer: api.Wait},
		{why: "not fenced, read, to read: not Granted", lock: bare(9, 1), client: 5, mode: 1, answer: api.Wait},
		{why: "not fenced, read, to write: not turned", lock: bare(9, 1), client: 5, mode: 2, answer: api.Wait},
		{why: "not fenced, written, to read: not turned", lock: bare(9, 2), client: 5, mode: 1, answer: api.Wait},
		{why: "not fenced, written, to write: not turned", lock: bare(9, 2), client: 5, mode: 2, answer: api.Wait},
		{why: "read, to write, at the last epoch", lock: fenced(top, 1), client: 5, mode: 2, answer: api.Wait},
		{why: "written, to read, at the last epoch", lock: fenced(top, 2), client: 5, mode: 1, answer: api.Wait},
		{why: "written, to write, at the last epoch", lock: fenced(top, 2), client: 5, mode: 2, answer: api.Wait},
		{why: "to read beside readers, written, at the last epoch", lock: fenced(top, 2, 5, 1, 8, 1), client: 6, mode: 1, answer: api.Wait},
		{why: "to read beside four, written, at the last epoch: not Conflict", lock: fenced(top, 2, 1, 1, 3, 1, 5, 1, 8, 1), client: 6, mode: 1, answer: api.Wait},

		{why: "gone, to read", lock: gone(9, 0, true), client: 5, mode: 1, answer: api.NoFile},
		{why: "gone, to write", lock: gone(9, 0, true), client: 5, mode: 2, answer: api.NoFile},
		{why: "gone, not fenced: not Wait", lock: gone(9, 0, false), client: 5, mode: 1, answer: api.NoFile},
		{why: "gone, read, to write: not Wait, not turned", lock: gone(9, 1, true), client: 5, mode: 2, answer: api.NoFile},
		{why: "gone, read, to read: not Granted", lock: gone(9, 1, true), client: 0, mode: 1, answer: api.NoFile},
		{why: "gone, written", lock: gone(9, 2, true), client: top, mode: 1, answer: api.NoFile},
		{why: "gone, at the last epoch", lock: gone(top, 2, false), client: 5, mode: 2, answer: api.NoFile},
		{why: "gone, at the epoch 0", lock: gone(0, 0, true), client: 5, mode: 2, answer: api.NoFile},
	}
}

func TestAskThatChangesNothing(t *testing.T) {
	for _, c := range kept() {
		c.want = c.lock
		c.check(t)
	}
}

func TestAskTurns(t *testing.T) {
	for _, c := range []asking{
		{"read, to write", fenced(9, 1), 5, 2, api.Wait, bare(10, 0)},
		{"written, to read", fenced(9, 2), 5, 1, api.Wait, bare(10, 0)},
		{"written, to write", fenced(9, 2), 5, 2, api.Wait, bare(10, 0)},
		{"the only reader asks to write", fenced(9, 1, 5, 1), 5, 2, api.Wait, bare(10, 0)},
		{"the only reader, 0, asks to write", fenced(9, 1, 0, 1), 0, 2, api.Wait, bare(10, 0)},
		{"the only reader asks to write where was written", fenced(9, 2, 5, 1), 5, 2, api.Wait, bare(10, 0)},
		{"to read beside readers where was written", fenced(9, 2, 5, 1, 8, 1), 6, 1, api.Wait, bare(10, 0)},
		{"to read beside four where was written: not Conflict", fenced(9, 2, 1, 1, 3, 1, 5, 1, 8, 1), 6, 1, api.Wait, bare(10, 0)},
		{"at the epoch 0", fenced(0, 1), 5, 2, api.Wait, bare(1, 0)},
		{"at the last epoch but one", fenced(top-1, 1, 5, 1), 5, 2, api.Wait, bare(top, 0)},
		{"at half of the epochs", fenced(0x7fffffff, 2), 5, 1, api.Wait, bare(0x80000000, 0)},
		{"with the cut 0", cut(fenced(9, 2), 0), 5, 1, api.Wait, cut(bare(10, 0), 0)},
		{"with the greatest cut", cut(fenced(9, 1), 1024), 5, 2, api.Wait, cut(bare(10, 0), 1024)},
		// Turning changes nothing at the last epoch; that the own hold is removed first does.
		{"the only reader asks to write, at the last epoch", fenced(top, 1, 5, 1), 5, 2, api.Wait, fenced(top, 1)},
		{"the only reader asks to write where was written, at the last epoch", fenced(top, 2, 0, 1), 0, 2, api.Wait, fenced(top, 2)},
	} {
		c.check(t)
	}
}

func TestAskKeepsTheFile(t *testing.T) {
	for _, file := range []uint32{0, 1, top} {
		for _, l := range []api.Lock{fenced(9, 0), fenced(9, 1), bare(9, 0), gone(9, 0, true), fenced(9, 1, 5, 1), fenced(9, 2, 5, 2)} {
			l.File = file
			for _, c := range asks(l) {
				if now, _, err := c.do(l); now.File != file || err != api.OK {
					t.Errorf("%s of %v = %v, %d", c.what, l, now, err)
				}
			}
		}
	}
}

func TestAskForNoMode(t *testing.T) {
	for _, l := range few() {
		for _, mode := range numbers {
			if mode == 1 || mode == 2 {
				continue
			}
			for _, client := range clients(l) {
				now, answer, err := Ask(l, client, mode)
				if err != api.ErrArg || answer != 0 || !equal(now, api.Lock{}) {
					t.Fatalf("Ask(%v, %d, %d) = %v, %d, %d", l, client, mode, now, answer, err)
				}
			}
		}
	}
}

// agree fails unless a call answers what the reading does, and counts the answer.
func agree(t *testing.T, l api.Lock, c call, seen map[int]int) api.Lock {
	t.Helper()
	now, answer, err := c.do(l)
	x, want := c.read(told(l))
	if err != api.OK || answer != want || !equal(now, x.lock()) {
		t.Fatalf("%s of %v = %v, %d, %d, want %v, %d", c.what, l, now, answer, err, x.lock(), want)
	}
	seen[answer]++
	return now
}

func TestAskAgainstAReading(t *testing.T) {
	seen := map[int]int{}
	for _, l := range locks() {
		for _, c := range asks(l) {
			agree(t, l, c, seen)
		}
	}
	for _, answer := range []int{api.Granted, api.Conflict, api.Wait, api.NoFile} {
		if seen[answer] < 500 {
			t.Errorf("the answer %d was given only %d times", answer, seen[answer])
		}
	}
}

func TestExample(t *testing.T) {
	l, answer, err := Ask(Fresh(7), 1, api.HoldRead)
	if answer != api.Wait || err != api.OK {
		t.Fatalf("Ask of a fresh lock = %v, %d, %d", l, answer, err)
	}
	l, err = Settle(l, 1, 0)
	if err != api.OK {
		t.Fatalf("Settle = %v, %d", l, err)
	}
	l, answer, err = Ask(l, 1, api.HoldRead)
	if answer != api.Granted || err != api.OK {
		t.Fatalf("Ask = %v, %d, %d", l, answer, err)
	}
	l, answer, err = Ask(l, 2, api.HoldWrite)
	if answer != api.Conflict || err != api.OK {
		t.Fatalf("Ask = %v, %d, %d", l, answer, err)
	}
	l, err = Return(l, 1, 1)
	if err != api.OK {
		t.Fatalf("Return = %v, %d", l, err)
	}
	l, answer, err = Ask(l, 2, api.HoldWrite)
	if answer != api.Wait || err != api.OK || !equal(l, api.Lock{File: 7, Epoch: 2}) {
		t.Fatalf("Ask = %v, %d, %d", l, answer, err)
	}
	l, err = Settle(l, 2, 12)
	if err != api.OK {
		t.Fatalf("Settle = %v, %d", l, err)
	}
	l, answer, err = Ask(l, 2, api.HoldWrite)
	if answer != api.Granted || err != api.OK || !equal(l, api.Lock{File: 7, Epoch: 2, Used: 2, Cut: 12, Fenced: true, Holders: by(2, 2)}) {
		t.Fatalf("Ask = %v, %d, %d", l, answer, err)
	}
}

// P12.3: Return, Revoke, Settle, Shrink and Drop.

// change is a call on a lock, and what it is to answer.
type change struct {
	why  string
	lock api.Lock
	call call
	want api.Lock
}

// check fails unless the call answers what is wanted.
func (c change) check(t *testing.T) {
	t.Helper()
	now, _, err := c.call.do(c.lock)
	if err != api.OK || !equal(now, c.want) {
		t.Errorf("%s: %s of %v = %v, %d, want %v", c.why, c.call.what, c.lock, now, err, c.want)
	}
}

func TestReturn(t *testing.T) {
	three, four := fenced(9, 1, 3, 1, 5, 1, 8, 1), fenced(9, 1, 1, 1, 3, 1, 5, 1, 8, 1)
	for _, c := range []change{
		{"the only reader", fenced(9, 1, 5, 1), giveBack(5, 9), fenced(9, 1)},
		{"the writer", fenced(9, 2, 5, 2), giveBack(5, 9), fenced(9, 2)},
		{"a reader where was written", fenced(9, 2, 5, 1), giveBack(5, 9), fenced(9, 2)},
		{"the first", three, giveBack(3, 9), fenced(9, 1, 5, 1, 8, 1)},
		{"the middle one", three, giveBack(5, 9), fenced(9, 1, 3, 1, 8, 1)},
		{"the last", three, giveBack(8, 9), fenced(9, 1, 3, 1, 5, 1)},
		{"the first of four", four, giveBack(1, 9), fenced(9, 1, 3, 1, 5, 1, 8, 1)},
		{"the third of four", four, giveBack(5, 9), fenced(9, 1, 1, 1, 3, 1, 8, 1)},
		{"the client 0", fenced(9, 1, 0, 1, 5, 1), giveBack(0, 9), fenced(9, 1, 5, 1)},
		{"the greatest client", fenced(9, 1, 0, 1, top, 1), giveBack(top, 9), fenced(9, 1, 0, 1)},
		{"at the epoch 0", fenced(0, 1, 5, 1), giveBack(5, 0), fenced(0, 1)},
		{"at the last epoch", fenced(top, 2, 5, 2), giveBack(5, top), fenced(top, 2)},
		{"in an earlier epoch", fenced(9, 1, 5, 1), giveBack(5, 8), fenced(9, 1, 5, 1)},
		{"in a later epoch", fenced(9, 2, 5, 2), giveBack(5, 10), fenced(9, 2, 5, 2)},
		{"in the epoch 0", fenced(9, 2, 5, 2), giveBack(5, 0), fenced(9, 2, 5, 2)},
		{"in the last epoch", fenced(0, 2, 5, 2), giveBack(5, top), fenced(0, 2, 5, 2)},
		{"in the epoch 0, at the last", fenced(top, 2, 5, 2), giveBack(5, 0), fenced(top, 2, 5, 2)},
		{"the client and the epoch the other way round", fenced(9, 1, 5, 1), giveBack(9, 5), fenced(9, 1, 5, 1)},
		{"no holder", three, giveBack(4, 9), three},
		{"no holder, ahead", three, giveBack(0, 9), three},
		{"no holder, behind", three, giveBack(top, 9), three},
		{"nobody holds it", fenced(9, 2), giveBack(5, 9), fenced(9, 2)},
		{"not fenced", bare(9, 1), giveBack(5, 9), bare(9, 1)},
		{"gone", gone(9, 1, true), giveBack(5, 9), gone(9, 1, true)},
		{"fresh", Fresh(7), giveBack(0, 1), Fresh(7)},
	} {
		c.check(t)
	}
}

func TestRevoke(t *testing.T) {
	for _, c := range []change{
		{"readers", fenced(9, 1, 3, 1, 5, 1, 8, 1), revoke(), bare(10, 0)},
		{"four readers where was written", fenced(9, 2, 1, 1, 3, 1, 5, 1, 8, 1), revoke(), bare(10, 0)},
		{"a writer", fenced(9, 2, 5, 2), revoke(), bare(10, 0)},
		{"nobody", fenced(9, 0), revoke(), bare(10, 0)},
		{"nobody, used", fenced(9, 2), revoke(), bare(10, 0)},
		{"not fenced", bare(9, 0), revoke(), bare(10, 0)},
		{"not fenced, used", bare(9, 1), revoke(), bare(10, 0)},
		{"gone", gone(9, 2, true), revoke(), gone(10, 0, false)},
		{"fresh", Fresh(7), revoke(), api.Lock{File: 7, Epoch: 2}},
		{"at the epoch 0", fenced(0, 2, 5, 2), revoke(), bare(1, 0)},
		{"at the last epoch but one", fenced(top-1, 2, 5, 2), revoke(), bare(top, 0)},
		{"at half of the epochs", fenced(0x7fffffff, 1), revoke(), bare(0x80000000, 0)},
		{"a writer, at the last epoch", fenced(top, 2, 5, 2), revoke(), fenced(top, 2, 5, 2)},
		{"readers, at the last epoch", fenced(top, 1, 0, 1, 5, 1, top, 1), revoke(), fenced(top, 1, 0, 1, 5, 1, top, 1)},
		{"nobody, at the last epoch", fenced(top, 1), revoke(), fenced(top, 1)},
		{"not fenced, at the last epoch", bare(top, 2), revoke(), bare(top, 2)},
		{"gone, at the last epoch", gone(top, 1, true), revoke(), gone(top, 1, true)},
		{"with the cut 0", cut(fenced(9, 1, 5, 1), 0), revoke(), cut(bare(10, 0), 0)},
		{"with the greatest cut", cut(fenced(9, 1, 5, 1), 1024), revoke(), cut(bare(10, 0), 1024)},
	} {
		c.check(t)
	}
}

func TestSettle(t *testing.T) {
	for _, c := range []change{
		{"fresh", Fresh(7), settle(1, 20), api.Lock{File: 7, Epoch: 1, Cut: 20, Fenced: true}},
		{"fresh, the size 0", Fresh(7), settle(1, 0), api.Lock{File: 7, Epoch: 1, Fenced: true}},
		{"fresh, the greatest size", Fresh(7), settle(1, 1024), api.Lock{File: 7, Epoch: 1, Cut: 1024, Fenced: true}},
		{"a lesser size", bare(9, 0), settle(9, 99), cut(fenced(9, 0), 99)},
		{"just the cut", bare(9, 0), settle(9, 100), fenced(9, 0)},
		{"a greater size", bare(9, 0), settle(9, 101), cut(fenced(9, 0), 101)},
		{"the size 0", bare(9, 0), settle(9, 0), cut(fenced(9, 0), 0)},
		{"the greatest size", bare(9, 0), settle(9, 1024), cut(fenced(9, 0), 1024)},
		{"the greatest cut, the size 0", cut(bare(9, 0), 1024), settle(9, 0), cut(fenced(9, 0), 0)},
		{"used", bare(9, 2), settle(9, 50), cut(fenced(9, 2), 50)},
		{"at the epoch 0", bare(0, 1), settle(0, 50), cut(fenced(0, 1), 50)},
		{"at the last epoch", bare(top, 0), settle(top, 50), cut(fenced(top, 0), 50)},
		{"gone", gone(9, 1, false), settle(9, 50), cut(gone(9, 1, true), 50)},
		{"an earlier epoch", bare(9, 0), settle(8, 50), bare(9, 0)},
		{"a later epoch", bare(9, 0), settle(10, 50), bare(9, 0)},
		{"the epoch 0", bare(9, 0), settle(0, 50), bare(9, 0)},
		{"the last epoch", bare(0, 0), settle(top, 50), bare(0, 0)},
		{"the epoch 0, at the last", bare(top, 0), settle(0, 50), bare(top, 0)},
		{"the epoch and the size the other way round", bare(9, 0), settle(50, 9), bare(9, 0)},
		{"gone, another epoch", gone(9, 1, false), settle(8, 50), gone(9, 1, false)},
		{"fenced already", fenced(9, 0), settle(9, 50), fenced(9, 0)},
		{"fenced already, another epoch", fenced(9, 0), settle(8, 50), fenced(9, 0)},
		{"fenced already, readers", fenced(9, 1, 5, 1, 8, 1), settle(9, 50), fenced(9, 1, 5, 1, 8, 1)},
		{"fenced already, a writer, a greater size", fenced(9, 2, 5, 2), settle(9, 1024), fenced(9, 2, 5, 2)},
		{"fenced already, gone", gone(9, 2, true), settle(9, 50), gone(9, 2, true)},
	} {
		c.check(t)
	}
}

func TestSettleAtTooGreatASize(t *testing.T) {
	for _, l := range few() {
		for _, epoch := range around(l.Epoch) {
			for _, size := range numbers {
				if size <= 1024 {
					continue
				}
				if now, err := Settle(l, epoch, size); err != api.ErrArg || !equal(now, api.Lock{}) {
					t.Fatalf("Settle(%v, %d, %d) = %v, %d", l, epoch, size, now, err)
				}
			}
		}
	}
}

func TestShrink(t *testing.T) {
	for _, c := range []change{
		{"a lesser size", fenced(9, 1, 5, 1), shrink(99), cut(fenced(9, 1, 5, 1), 99)},
		{"just the cut", fenced(9, 1, 5, 1), shrink(100), fenced(9, 1, 5, 1)},
		{"a greater size", fenced(9, 1, 5, 1), shrink(101), fenced(9, 1, 5, 1)},
		{"the size 0", fenced(9, 2, 5, 2), shrink(0), cut(fenced(9, 2, 5, 2), 0)},
		{"the greatest size", fenced(9, 2, 5, 2), shrink(1024), fenced(9, 2, 5, 2)},
		{"too great a size", fenced(9, 2, 5, 2), shrink(1025), fenced(9, 2, 5, 2)},
		{"the greatest number", fenced(9, 2, 5, 2), shrink(top), fenced(9, 2, 5, 2)},
		{"a number below 0, if it had a sign", fenced(9, 2, 5, 2), shrink(0x80000000), fenced(9, 2, 5, 2)},
		{"the cut 0", cut(fenced(9, 0), 0), shrink(5), cut(fenced(9, 0), 0)},
		{"the cut 0, the size 0", cut(fenced(9, 0), 0), shrink(0), cut(fenced(9, 0), 0)},
		{"the greatest cut", cut(fenced(9, 0), 1024), shrink(1023), cut(fenced(9, 0), 1023)},
		{"the greatest cut, just it", cut(fenced(9, 0), 1024), shrink(1024), cut(fenced(9, 0), 1024)},
		{"the greatest cut, too great a size", cut(fenced(9, 0), 1024), shrink(1025), cut(fenced(9, 0), 1024)},
		{"not fenced", bare(9, 1), shrink(20), cut(bare(9, 1), 20)},
		{"gone", gone(9, 1, true), shrink(20), cut(gone(9, 1, true), 20)},
		{"at the last epoch", fenced(top, 1, 5, 1), shrink(20), cut(fenced(top, 1, 5, 1), 20)},
		{"fresh", Fresh(7), shrink(0), Fresh(7)},
	} {
		c.check(t)
	}
}

func TestDrop(t *testing.T) {
	for _, c := range []change{
		{"readers", fenced(9, 1, 3, 1, 5, 1, 8, 1), drop(), cut(gone(10, 0, false), 0)},
		{"a writer", fenced(9, 2, 5, 2), drop(), cut(gone(10, 0, false), 0)},
		{"nobody", fenced(9, 0), drop(), cut(gone(10, 0, false), 0)},
		{"nobody, used", fenced(9, 1), drop(), cut(gone(10, 0, false), 0)},
		{"not fenced", bare(9, 2), drop(), cut(gone(10, 0, false), 0)},
		{"gone already", gone(9, 2, true), drop(), cut(gone(10, 0, false), 0)},
		{"gone already, not fenced", gone(9, 0, false), drop(), cut(gone(10, 0, false), 0)},
		{"fresh", Fresh(7), drop(), api.Lock{File: 7, Epoch: 2, Gone: true}},
		{"the greatest cut", cut(fenced(9, 0), 1024), drop(), cut(gone(10, 0, false), 0)},
		{"at the epoch 0", fenced(0, 1, 5, 1), drop(), cut(gone(1, 0, false), 0)},
		{"at the last epoch but one", fenced(top-1, 1, 5, 1), drop(), cut(gone(top, 0, false), 0)},
		{"readers, at the last epoch", fenced(top, 1, 0, 1, 5, 1, 8, 1, top, 1), drop(), cut(gone(top, 1, true), 0)},
		{"a writer, at the last epoch", fenced(top, 2, 5, 2), drop(), cut(gone(top, 2, true), 0)},
		{"nobody, at the last epoch", fenced(top, 0), drop(), cut(gone(top, 0, true), 0)},
		{"not fenced, at the last epoch", bare(top, 2), drop(), cut(gone(top, 2, false), 0)},
		{"gone already, at the last epoch", gone(top, 1, true), drop(), cut(gone(top, 1, true), 0)},
	} {
		c.check(t)
	}
}

func TestOtherCallsAgainstAReading(t *testing.T) {
	seen := map[int]int{}
	for _, l := range locks() {
		for _, c := range slices.Concat(returns(l), settles(l), shrinks(l), []call{revoke(), drop()}) {
			agree(t, l, c, seen)
		}
	}
	if seen[0] < 10000 {
		t.Errorf("only %d calls", seen[0])
	}
}

// The error that all of these have.

func TestLocksMustBeValid(t *testing.T) {
	for _, w := range wrongLocks() {
		l := w.lock
		short := l
		short.Holders = l.Holders[:min(len(l.Holders), 9)]
		var all []call
		for _, client := range clients(short) {
			all = append(all, ask(client, 0), ask(client, 1), ask(client, 2), ask(client, 3), giveBack(client, l.Epoch), giveBack(client, l.Epoch+1))
		}
		for _, size := range []uint32{0, 100, 1024, 1025, top} {
			all = append(all, settle(l.Epoch, size), settle(l.Epoch-1, size), shrink(size))
		}
		for _, c := range append(all, revoke(), drop()) {
			now, answer, err := c.do(l)
			if err != api.ErrArg || answer != 0 || !equal(now, api.Lock{}) {
				t.Fatalf("%s: %s = %v, %d, %d", w.why, c.what, now, answer, err)
			}
		}
	}
}

// Common rule 4: memory.

// junk is a holder that is in no lock.
var junk = api.Holder{Client: 88, Mode: 99}

// roomy is a copy of a lock whose holders have spare capacity, in which something lies.
func roomy(l api.Lock) api.Lock {
	n := len(l.Holders)
	m := append(slices.Clone(l.Holders), slices.Repeat([]api.Holder{junk}, 10)...)
	l.Holders = m[:n:len(m)]
	return l
}

// whole is a copy of a lock and of all its memory, the spare capacity too.
func whole(l api.Lock) api.Lock {
	l.Holders = slices.Clone(l.Holders[:cap(l.Holders)])
	return l
}

// spoil writes over all memory of a list.
func spoil[T any](l []T, x T) {
	l = l[:cap(l)]
	for i := range l {
		l[i] = x
	}
}

// keeps fails unless a call leaves the lock that is handed in as it was, and answers new memory, each time it is called.
func keeps[T comparable](t *testing.T, l api.Lock, what string, x T, call func(l api.Lock) []T) {
	t.Helper()
	arg := roomy(l)
	before := whole(arg)
	first := call(arg)
	if !equal(whole(arg), before) || len(arg.Holders) != len(l.Holders) {
		t.Fatalf("%s of %v: what was handed in is %v, was %v", what, l, whole(arg), before)
	}
	want := slices.Clone(first)
	spoil(first, x)
	if !equal(whole(arg), before) {
		t.Fatalf("%s of %v: what was answered shares memory with what was handed in", what, l)
	}
	second := call(arg)
	if !slices.Equal(second, want) {
		t.Fatalf("%s of %v: the same call answers %v, then %v", what, l, want, second)
	}
	spoil(first, x)
	spoil(arg.Holders, api.Holder{Client: 66, Mode: 66})
	if !slices.Equal(second, want) {
		t.Fatalf("%s of %v: what was answered changes with other memory", what, l)
	}
}

// keepsAll fails unless all functions keep to what is said of memory, of one lock.
func keepsAll(t *testing.T, l api.Lock, all []call) {
	t.Helper()
	strange := api.Holder{Client: 77, Mode: 77}
	for _, c := range all {
		keeps(t, l, c.what, strange, func(l api.Lock) []api.Holder {
			now, _, _ := c.do(l)
			return now.Holders
		})
	}
	for _, client := range clients(l) {
		for mode := range uint32(4) {
			keeps(t, l, "Others", 77, func(l api.Lock) []uint32 { return Others(l, client, mode) })
		}
		keeps(t, l, "Mode", 77, func(l api.Lock) []uint32 { return []uint32{Mode(l, client)} })
	}
	keeps(t, l, "Right", false, func(l api.Lock) []bool { return []bool{Right(l)} })
}

func TestLocksAreNewMemory(t *testing.T) {
	for _, l := range few() {
		keepsAll(t, l, calls(l))
	}
}

func TestWrongLocksStayAsTheyAre(t *testing.T) {
	for _, w := range wrongLocks() {
		if len(w.lock.Holders) < 10 && w.lock.Epoch == 9 {
			l := w.lock
			keepsAll(t, l, []call{ask(5, 1), ask(6, 2), ask(5, 0), giveBack(5, 9), revoke(), settle(9, 50), settle(9, 1025), shrink(5), drop()})
		}
	}
}

// P12.4 to P12.7: runs of calls, one behind the other.

// run is a lock, and who was granted what in its epoch.
type run struct {
	lock    api.Lock
	granted map[uint32]bool
	written bool
}

// step is a run behind a call; it fails unless the call keeps the promises.
func (r run) step(t *testing.T, c call, seen map[int]int) run {
	t.Helper()
	now := agree(t, r.lock, c, seen)
	next := run{now, r.granted, r.written}
	if now.Epoch != r.lock.Epoch {
		next.granted, next.written = nil, false
	}
	sound(t, r.lock, now, c.what)
	return next
}

// grants is a run behind a call of Ask.
func (r run) grants(t *testing.T, client, mode uint32, seen map[int]int) run {
	t.Helper()
	_, answer, _ := Ask(r.lock, client, mode)
	next := r.step(t, ask(client, mode), seen)
	if answer == api.Granted {
		next.granted = with(next.granted, client)
		next.written = next.written || mode == api.HoldWrite
		if Mode(next.lock, client) < mode {
			t.Fatalf("Ask(%v, %d, %d) = %v, and it is granted", r.lock, client, mode, next.lock)
		}
	}
	next.exclusive(t)
	return next
}

// exclusive fails unless whoever was granted to write was the only one (P12.4).
func (r run) exclusive(t *testing.T) {
	t.Helper()
	if r.written && len(r.granted) != 1 {
		t.Fatalf("%v: to write was granted, and %v were granted something in this epoch", r.lock, r.granted)
	}
	for _, h := range r.lock.Holders {
		if !r.granted[h.Client] || h.Mode == api.HoldWrite && !r.written {
			t.Fatalf("%v: %d holds it, and was not granted to in this epoch", r.lock, h.Client)
		}
	}
}

// sound fails unless a call keeps the promises on what becomes of a lock (P12.4 to P12.6).
func sound(t *testing.T, was, now api.Lock, what string) {
	t.Helper()
	for _, h := range now.Holders {
		if h.Mode == api.HoldWrite && len(now.Holders) > 1 {
			t.Fatalf("%s of %v = %v: a writer is not alone", what, was, now)
		}
	}
	if now.Epoch < was.Epoch {
		t.Fatalf("%s of %v = %v: the epoch decreases", what, was, now)
	}
	if len(reasons(now)) > 0 || !Right(now) {
		t.Fatalf("%s of %v = %v: not valid, for %v; Right = %v", what, was, now, reasons(now), Right(now))
	}
}

func TestResultsAreValidAndEpochsRise(t *testing.T) {
	for _, l := range locks() {
		for _, c := range calls(l) {
			now, _, err := c.do(l)
			if err != api.OK {
				t.Fatalf("%s of %v: error %d", c.what, l, err)
			}
			sound(t, l, now, c.what)
			if now.File != l.File || now.Epoch != l.Epoch && now.Epoch != l.Epoch+1 {
				t.Fatalf("%s of %v = %v", c.what, l, now)
			}
		}
	}
}

// undisturbed fails unless a client that asks to read, where nobody was granted to write, is granted it, and all others keep their holds (P12.7); it says whether there was something to ask.
func undisturbed(t *testing.T, l api.Lock, client uint32) bool {
	t.Helper()
	others := 0
	for _, h := range l.Holders {
		if h.Client != client {
			others++
		}
	}
	if !l.Fenced || l.Gone || l.Used == api.HoldWrite || others >= 4 {
		return false
	}
	now, answer, err := Ask(l, client, api.HoldRead)
	if err != api.OK || answer != api.Granted || Mode(now, client) == 0 || now.Epoch != l.Epoch {
		t.Fatalf("Ask(%v, %d, 1) = %v, %d, %d", l, client, now, answer, err)
	}
	for _, h := range l.Holders {
		if !slices.Contains(now.Holders, h) {
			t.Fatalf("Ask(%v, %d, 1) = %v: %d lost its hold", l, client, now, h.Client)
		}
	}
	return true
}

func TestReadersDoNotDisturb(t *testing.T) {
	done := 0
	for _, l := range locks() {
		for _, client := range clients(l) {
			if undisturbed(t, l, client) {
				done++
			}
		}
	}
	if done < 500 {
		t.Errorf("only %d were granted", done)
	}
	l := fenced(9, 1)
	for i, client := range []uint32{5, top, 0, 1} {
		if !undisturbed(t, l, client) {
			t.Fatalf("%v: %d can't be asked", l, client)
		}
		l, _, _ = Ask(l, client, api.HoldRead)
		if len(l.Holders) != i+1 {
			t.Fatalf("%v: want %d holders", l, i+1)
		}
	}
	if !equal(l, fenced(9, 1, 0, 1, 1, 1, 5, 1, top, 1)) {
		t.Errorf("four readers: %v", l)
	}
	if now, answer, _ := Ask(l, 3, api.HoldRead); answer != api.Conflict || !equal(now, l) {
		t.Errorf("a fifth: %v, %d", now, answer)
	}
}

// key is a run as a value.
type key struct {
	lock    string
	granted [6]bool
	written bool
}

// key is this run's.
func (r run) key() key {
	k := key{lock: fmt.Sprint(r.lock), written: r.written}
	for client := range r.granted {
		k.granted[client] = true
	}
	return k
}

// nexts are all runs of one more step, of five clients and few sizes.
func (r run) nexts(t *testing.T, seen map[int]int) []run {
	t.Helper()
	var all []run
	for client := range uint32(5) {
		undisturbed(t, r.lock, client)
		all = append(all, r.grants(t, client, 1, seen), r.grants(t, client, 2, seen))
		all = append(all, r.step(t, giveBack(client, r.lock.Epoch), seen), r.step(t, giveBack(client, r.lock.Epoch-1), seen))
	}
	for _, epoch := range []uint32{r.lock.Epoch, r.lock.Epoch - 1, r.lock.Epoch + 1} {
		all = append(all, r.step(t, settle(epoch, 3), seen))
	}
	all = append(all, r.step(t, revoke(), seen), r.step(t, shrink(1), seen), r.step(t, drop(), seen))
	for _, next := range all {
		next.exclusive(t)
	}
	return all
}

// TestEveryRun goes from a fresh lock, and from one shortly ahead of the last epoch, to all locks of few epochs that five clients can reach.
func TestEveryRun(t *testing.T) {
	for _, first := range []api.Lock{Fresh(7), {File: 7, Epoch: top - 2}, {File: 7, Epoch: 0}} {
		seen := map[int]int{}
		start := run{lock: first}
		left, known := []run{start}, map[key]bool{start.key(): true}
		for len(left) > 0 {
			r := left[0]
			left = left[1:]
			for _, next := range r.nexts(t, seen) {
				if k := next.key(); !known[k] && next.lock.Epoch-first.Epoch < 3 {
					known[k] = true
					left = append(left, next)
				}
			}
		}
		if len(known) < 500 || seen[api.Granted] < 500 || seen[api.Conflict] < 500 || seen[api.Wait] < 100 || seen[api.NoFile] < 50 {
			t.Errorf("from %v only %d runs, the answers %v", first, len(known), seen)
		}
	}
}

// randomly is a run behind a random call.
func randomly(t *testing.T, r run, g *rand.Rand, seen map[int]int) run {
	t.Helper()
	pick := func(l ...uint32) uint32 { return l[g.Intn(len(l))] }
	client := pick(0, 1, 2, 17, 0x80000000, top)
	epoch := pick(r.lock.Epoch, r.lock.Epoch, r.lock.Epoch, r.lock.Epoch-1, r.lock.Epoch+1, 0, top)
	size := pick(0, 1, r.lock.Cut, r.lock.Cut/2, 512, 1023, 1024)
	undisturbed(t, r.lock, client)
	switch n := g.Intn(1000); {
	case n < 450:
		return r.grants(t, client, pick(1, 1, 1, 2), seen)
	case n < 700:
		return r.step(t, giveBack(client, epoch), seen)
	case n < 850:
		return r.step(t, settle(epoch, size), seen)
	case n < 950:
		return r.step(t, shrink(pick(size, r.lock.Cut+1, 1025, top)), seen)
	case n < 998:
		return r.step(t, revoke(), seen)
	}
	return r.step(t, drop(), seen)
}

func TestRandomRuns(t *testing.T) {
	g := rand.New(rand.NewSource(1))
	seen := map[int]int{}
	for i := range 300 {
		r := run{lock: Fresh(uint32(i))}
		if i%3 == 0 {
			r.lock.Epoch = top - uint32(i/3)
		}
		for range 500 {
			r = randomly(t, r, g, seen)
			r.exclusive(t)
		}
	}
	for _, answer := range []int{api.Granted, api.Conflict, api.Wait, api.NoFile} {
		if seen[answer] < 500 {
			t.Errorf("the answer %d was given only %d times", answer, seen[answer])
		}
	}
}
