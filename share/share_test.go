package share

import (
	"fmt"
	"maps"
	"math"
	"math/rand"
	"slices"
	"testing"

	"lamella/api"
)

// top is the greatest number of a client, a handle or a file.
const top = math.MaxUint32

// numbers are of clients, handles and files, or ways of access: the least, the greatest, those at which something changes, some at which a narrower or a signed number would wrap round, and neighbours.
var numbers = []uint32{0, 1, 2, 3, 4, 5, 6, 7, 0x100, 0x10001, 0x7fffffff, 0x80000000, 0x80000001, top - 1, top}

// open is an open, whether it may be or not.
func open(client, handle, file, access, deny uint32) api.Open {
	return api.Open{Client: client, Handle: handle, File: file, Access: access, Deny: deny}
}

// key is by what an open is found, held what it says of its file.
type (
	key  struct{ client, handle uint32 }
	held struct {
		file                             uint32
		reads, writes, noReads, noWrites bool
	}
)

// telling is a second telling of a list of opens: without an order, and without bits.
type telling map[key]held

// ways are reading and writing, by a number from 0 to 3.
func ways(n uint32) (reads, writes, ok bool) {
	switch n {
	case 0:
		return false, false, true
	case 1:
		return true, false, true
	case 2:
		return false, true, true
	case 3:
		return true, true, true
	}
	return false, false, false
}

// number is the number of these ways.
func number(reads, writes bool) uint32 {
	switch {
	case reads && writes:
		return 3
	case writes:
		return 2
	case reads:
		return 1
	}
	return 0
}

// read is a reading of the chapter's definition of a valid open.
func read(o api.Open) (key, held, bool) {
	reads, writes, access := ways(o.Access)
	noReads, noWrites, deny := ways(o.Deny)
	ok := o.Client > 0 && o.File > 0 && access && deny && (reads || writes)
	return key{o.Client, o.Handle}, held{o.File, reads, writes, noReads, noWrites}, ok
}

// clash is a reading of its definition of a conflict.
func clash(a, b held) bool {
	return a.file == b.file && (a.reads && b.noReads || a.writes && b.noWrites || b.reads && a.noReads || b.writes && a.noWrites)
}

// told is a reading of its definition of a valid list.
func told(l []api.Open) (telling, bool) {
	if len(l) > 12 {
		return nil, false
	}
	x := telling{}
	own := map[uint32]int{}
	for i, o := range l {
		k, h, ok := read(o)
		if !ok {
			return nil, false
		}
		if i > 0 && (l[i-1].Client > o.Client || l[i-1].Client == o.Client && l[i-1].Handle >= o.Handle) {
			return nil, false
		}
		if own[o.Client]++; own[o.Client] > 4 {
			return nil, false
		}
		x[k] = h
	}
	for k, h := range x {
		for other, g := range x {
			if k != other && clash(h, g) {
				return nil, false
			}
		}
	}
	return x, true
}

// list is the list of a telling.
func (x telling) list() []api.Open {
	var l []api.Open
	for k, h := range x {
		l = append(l, open(k.client, k.handle, h.file, number(h.reads, h.writes), number(h.noReads, h.noWrites)))
	}
	slices.SortFunc(l, func(a, b api.Open) int {
		if a.Client != b.Client {
			return int(int64(a.Client) - int64(b.Client))
		}
		return int(int64(a.Handle) - int64(b.Handle))
	})
	return l
}

// added is a reading of Add.
func (x telling) added(o api.Open) (telling, api.Errno) {
	k, h, ok := read(o)
	if !ok {
		return nil, api.ErrArg
	}
	if _, there := x[k]; there {
		return nil, api.ErrThere
	}
	own := 0
	for other := range x {
		if other.client == k.client {
			own++
		}
	}
	if own >= 4 || len(x) >= 12 {
		return nil, api.ErrMany
	}
	for _, g := range x {
		if clash(g, h) {
			return nil, api.ErrShare
		}
	}
	y := maps.Clone(x)
	y[k] = h
	return y, api.OK
}

// dropped is a reading of Drop.
func (x telling) dropped(client, handle uint32) (telling, api.Open, api.Errno) {
	h, there := x[key{client, handle}]
	if !there {
		return nil, api.Open{}, api.ErrFd
	}
	y := maps.Clone(x)
	delete(y, key{client, handle})
	return y, telling{key{client, handle}: h}.list()[0], api.OK
}

// cleared is a reading of Clear.
func (x telling) cleared(client uint32) telling {
	y := maps.Clone(x)
	maps.DeleteFunc(y, func(k key, _ held) bool { return k.client == client })
	return y
}

// crowd are opens of one client, by handles from first on, of a file each.
func crowd(client, first, file uint32, n int) []api.Open {
	var l []api.Open
	for i := range n {
		l = append(l, open(client, first+uint32(i), file+uint32(i), uint32(1+i%3), uint32(i%4)))
	}
	return l
}

// mob are opens of one file, by as many clients.
func mob(file uint32, n int) []api.Open {
	var l []api.Open
	for i := range n {
		l = append(l, open(uint32(10+i), uint32(i%3), file, 3, 0))
	}
	return l
}

// fullest is a list of 12 opens, four of each of the clients 3, 5 and 9, of a file each: each Access with each Deny.
func fullest() []api.Open {
	var l []api.Open
	for i := range uint32(12) {
		l = append(l, open([]uint32{3, 5, 9}[i/4], 2+10*(i%4), 100+i, 1+i/4, i%4))
	}
	return l
}

// mixed is a list of several clients and files, in which a file is open several times, and a client has one twice.
func mixed() []api.Open {
	return []api.Open{
		open(1, 0, 7, 1, 0), open(1, 5, 8, 1, 2), open(1, 9, 8, 1, 0),
		open(4, 0, 9, 2, 1), open(4, 3, 7, 3, 0),
		open(6, 5, 8, 1, 2), open(6, 6, 9, 2, 1), open(6, 7, 2, 3, 3), open(6, top, 7, 2, 0),
		open(top, 0, top, 3, 3),
	}
}

// lists are lists that are valid.
func lists() map[string][]api.Open {
	return map[string][]api.Open{
		"nil":                    nil,
		"the empty list":         {},
		"the least numbers":      {open(1, 0, 1, 1, 0)},
		"the greatest numbers":   {open(top, top, top, 3, 3)},
		"the greatest client":    {open(1, 0, 1, 3, 0), open(top, 0, 1, 3, 0)},
		"the greatest handle":    {open(1, 0, 1, 3, 0), open(1, top, 1, 3, 0)},
		"one open":               {open(5, 5, 9, 2, 1)},
		"the example":            {open(1, 1, 9, 1, 2)},
		"the example's second":   {open(1, 1, 9, 1, 0), open(2, 1, 9, 3, 0)},
		"readers, no writing":    {open(1, 1, 9, 1, 2), open(2, 1, 9, 1, 2), open(3, 1, 9, 1, 0)},
		"writers, no reading":    {open(1, 1, 9, 2, 1), open(2, 1, 9, 2, 0), open(3, 1, 9, 2, 1)},
		"a reader and a writer":  {open(1, 1, 9, 1, 1), open(2, 1, 9, 2, 2)},
		"denied by one other":    {open(1, 1, 9, 2, 0), open(2, 1, 9, 2, 1)},
		"all is denied, apart":   {open(1, 1, 7, 3, 3), open(1, 2, 8, 3, 3), open(2, 1, 9, 3, 3)},
		"one file, one client":   {open(2, 0, 9, 1, 2), open(2, 1, 9, 1, 2), open(2, 7, 9, 1, 0), open(2, top, 9, 1, 2)},
		"a client with 3":        crowd(5, 0, 20, 3),
		"a client with 4":        crowd(5, 0, 20, 4),
		"a client with 4 amidst": slices.Concat(crowd(4, 7, 20, 1), crowd(5, 7, 30, 4), crowd(6, 7, 40, 2)),
		"handles that fall":      {open(1, 9, 1, 1, 0), open(2, 8, 2, 1, 0), open(3, 7, 3, 1, 0)},
		"files that fall":        {open(1, 1, 9, 3, 3), open(1, 2, 8, 2, 1), open(2, 0, 7, 1, 2), open(2, 3, 1, 3, 1)},
		"all have it open":       mob(9, 11),
		"12 clients":             mob(9, 12),
		"12, each Access, Deny":  fullest(),
		"11 of them, no last":    fullest()[:11],
		"11 of them, no first":   fullest()[1:],
		"10 of them, 2 by one":   slices.Concat(fullest()[:5], fullest()[7:]),
		"the mixed one":          mixed(),
	}
}

// sorted are these lists in one order, for random runs that are to be the same each time.
func sorted() [][]api.Open {
	var l [][]api.Open
	m := lists()
	for _, why := range slices.Sorted(maps.Keys(m)) {
		l = append(l, m[why])
	}
	return l
}

// changed is a copy of a list in which one open is changed.
func changed(l []api.Open, at int, change func(o *api.Open)) []api.Open {
	l = slices.Clone(l)
	change(&l[at])
	return l
}

// wrongOpens are opens that are not valid, for each reason, and for several.
func wrongOpens() []api.Open {
	l := []api.Open{{}, open(0, 1, 9, 1, 2), open(0, 0, top, 3, 0), open(1, 1, 0, 1, 0), open(top, top, 0, 3, 3), open(1, 1, 9, 0, 0), open(1, 1, 9, 0, 3), open(0, 0, 0, 1, 0), open(0, 1, 0, 0, 4), open(top, top, top, top, top)}
	for _, n := range numbers {
		if n > 3 {
			l = append(l, open(1, 1, 9, n, 0), open(1, 1, 9, n, 3), open(1, 1, 9, 1, n), open(1, 1, 9, 3, n), open(1, 1, 9, n, n), open(1, 1, 9, 0, n))
		}
	}
	return l
}

// wrongLists are lists that are not valid, for each reason.
func wrongLists() map[string][]api.Open {
	m := map[string][]api.Open{
		"the client 0":                {open(0, 1, 9, 1, 0)},
		"the client 0, ahead":         {open(0, 1, 9, 1, 0), open(1, 1, 9, 1, 0)},
		"not rising by client":        {open(2, 1, 8, 1, 0), open(1, 1, 9, 1, 0)},
		"not rising by client, last":  {open(1, 1, 8, 1, 0), open(3, 1, 8, 1, 0), open(2, 1, 9, 1, 0)},
		"not rising by handle":        {open(1, 2, 8, 1, 0), open(1, 1, 9, 1, 0)},
		"not rising by handle, last":  {open(1, 7, 8, 1, 0), open(2, 2, 8, 1, 0), open(2, 1, 9, 1, 0)},
		"rising by handle alone":      {open(2, 1, 8, 1, 0), open(1, 2, 9, 1, 0)},
		"handles as signed numbers":   {open(1, top, 8, 1, 0), open(1, 0, 9, 1, 0)},
		"clients as signed numbers":   {open(top, 1, 8, 1, 0), open(1, 1, 9, 1, 0)},
		"client and handle twice":     {open(1, 1, 8, 1, 0), open(1, 1, 9, 1, 0)},
		"the same open twice":         {open(1, 1, 9, 1, 0), open(1, 1, 9, 1, 0)},
		"twice, of other access":      {open(1, 1, 9, 1, 0), open(1, 1, 9, 2, 0)},
		"twice, amidst":               {open(1, 1, 8, 1, 0), open(2, 5, 8, 1, 0), open(2, 5, 9, 1, 0), open(2, 6, 9, 1, 0)},
		"the greatest twice":          {open(top, top, 8, 1, 0), open(top, top, 9, 1, 0)},
		"twice, not beside":           {open(1, 1, 8, 1, 0), open(2, 5, 8, 1, 0), open(1, 1, 9, 1, 0)},
		"the example":                 {open(1, 1, 9, 1, 2), open(2, 1, 9, 2, 0)},
		"a conflict the other way":    {open(1, 1, 9, 2, 0), open(2, 1, 9, 1, 2)},
		"a conflict about reading":    {open(1, 1, 9, 2, 1), open(2, 1, 9, 1, 0)},
		"a conflict, other way":       {open(1, 1, 9, 1, 0), open(2, 1, 9, 2, 1)},
		"a conflict both ways":        {open(1, 1, 9, 3, 3), open(2, 1, 9, 3, 3)},
		"a conflict within a client":  {open(1, 1, 9, 1, 2), open(1, 2, 9, 2, 0)},
		"a conflict of the greatest":  {open(1, 1, top, 1, 0), open(top, top, top, 1, 1)},
		"a conflict far apart":        changed(changed(fullest(), 0, func(o *api.Open) { o.File = 77 }), 11, func(o *api.Open) { o.File = 77 }),
		"a conflict behind one":       {open(1, 1, 9, 1, 0), open(2, 1, 9, 1, 0), open(3, 1, 9, 1, 1)},
		"5 of a client":               crowd(5, 0, 20, 5),
		"5 of a client, amidst":       slices.Concat(crowd(4, 0, 20, 2), crowd(5, 0, 30, 5), crowd(6, 0, 40, 2)),
		"5 of the last client":        slices.Concat(crowd(4, 0, 20, 4), crowd(5, 0, 30, 5)),
		"5 of one client, of 12":      slices.Concat(crowd(4, 0, 20, 4), crowd(5, 0, 30, 5), crowd(6, 0, 40, 3)),
		"12 of one client":            crowd(5, 0, 20, 12),
		"13 of 13 clients":            mob(9, 13),
		"13 of 4 clients":             append(fullest(), open(10, 0, 1, 1, 0)),
		"13, with one ahead of them":  append([]api.Open{open(1, 0, 1, 1, 0)}, fullest()...),
		"16, as many as clients have": slices.Concat(crowd(1, 0, 10, 4), crowd(2, 0, 20, 4), crowd(3, 0, 30, 4), crowd(4, 0, 40, 4)),
		"very many":                   mob(9, 10000),
		"very many zero opens":        make([]api.Open, 10000),
	}
	for i, o := range wrongOpens() {
		m[fmt.Sprintf("the open %d that is not valid", i)] = []api.Open{o}
		m[fmt.Sprintf("the open %d that is not valid, last", i)] = []api.Open{open(1, 0, 5, 1, 0), o}
		m[fmt.Sprintf("the open %d that is not valid, ahead", i)] = []api.Open{o, open(top, top, 5, 1, 0)}
	}
	for i := range fullest() {
		for what, change := range map[string]func(o *api.Open){
			"no client": func(o *api.Open) { o.Client = 0 }, "no file": func(o *api.Open) { o.File = 0 },
			"no access": func(o *api.Open) { o.Access = 0 }, "access 4": func(o *api.Open) { o.Access = 4 },
			"deny 4": func(o *api.Open) { o.Deny = 4 }, "the greatest access": func(o *api.Open) { o.Access = top }, "the greatest deny": func(o *api.Open) { o.Deny = top },
		} {
			m[fmt.Sprintf("12, open %d with %s", i, what)] = changed(fullest(), i, change)
		}
	}
	return m
}

// beside are opens to be added to a list: those of its clients, and of others, by its handles and others, of its files and another one, with each Access and Deny.
func beside(l []api.Open) []api.Open {
	clients, handles, files := map[uint32]bool{1: true, 8: true, top: true}, map[uint32]bool{0: true, 4: true, top: true}, map[uint32]bool{1: true, 9: true}
	for _, o := range l {
		clients[o.Client], handles[o.Handle], files[o.File] = true, true, true
	}
	var all []api.Open
	for _, client := range slices.Sorted(maps.Keys(clients)) {
		for _, handle := range slices.Sorted(maps.Keys(handles)) {
			for _, file := range slices.Sorted(maps.Keys(files)) {
				for n := range uint32(12) {
					all = append(all, open(client, handle, file, 1+n/4, n%4))
				}
			}
		}
	}
	return all
}

// same fails unless an answer is this list.
func same(t *testing.T, l []api.Open, err api.Errno, want []api.Open, format string, a ...any) {
	t.Helper()
	if err != api.OK || !slices.Equal(l, want) {
		t.Errorf(format+" = %v, %d, want %v", append(a, l, err, want)...)
	}
}

// fails fails unless an answer is this error and no list.
func fails(t *testing.T, l []api.Open, err, want api.Errno, format string, a ...any) {
	t.Helper()
	if err != want || len(l) != 0 {
		t.Errorf(format+" = %v, %d, want error %d", append(a, l, err, want)...)
	}
}

// answers fails unless an answer is the one of a reading.
func answers(t *testing.T, l []api.Open, err api.Errno, want telling, e api.Errno, format string, a ...any) {
	t.Helper()
	if e != api.OK {
		fails(t, l, err, e, format, a...)
		return
	}
	same(t, l, err, want.list(), format, a...)
}

// added, dropped and cleared are the results of calls that must do what they are asked.
func added(t *testing.T, l []api.Open, o api.Open) []api.Open {
	t.Helper()
	now, err := Add(l, o)
	if err != api.OK {
		t.Fatalf("Add of %v to %v: error %d", o, l, err)
	}
	return now
}

func dropped(t *testing.T, l []api.Open, client, handle uint32) []api.Open {
	t.Helper()
	now, _, err := Drop(l, client, handle)
	if err != api.OK {
		t.Fatalf("Drop of %d, %d from %v: error %d", client, handle, l, err)
	}
	return now
}

func cleared(t *testing.T, l []api.Open, client uint32) []api.Open {
	t.Helper()
	now, err := Clear(l, client)
	if err != api.OK {
		t.Fatalf("Clear of %d from %v: error %d", client, l, err)
	}
	return now
}

func TestTheExamples(t *testing.T) {
	a, b := open(1, 1, 9, 1, 2), open(2, 1, 9, 2, 0)
	now, err := Add(added(t, nil, a), b)
	fails(t, now, err, api.ErrShare, "Add of what conflicts")
	now, err = Add(added(t, nil, b), a)
	fails(t, now, err, api.ErrShare, "Add of what conflicts, in the other order")
	if Right([]api.Open{a, b}) {
		t.Error("opens that conflict are a valid list")
	}
	a, b = open(1, 1, 9, 1, 0), open(2, 1, 9, 3, 0)
	same(t, added(t, added(t, nil, a), b), api.OK, []api.Open{a, b}, "Add of what doesn't conflict")
	same(t, added(t, added(t, nil, b), a), api.OK, []api.Open{a, b}, "Add of what doesn't conflict, in the other order")
	if !Right([]api.Open{a, b}) {
		t.Error("opens that don't conflict are no valid list")
	}
}

// P11.1: Right.

func TestValidLists(t *testing.T) {
	for why, l := range lists() {
		if _, ok := told(l); !ok || !Right(l) {
			t.Errorf("%s: Right = %v, and the reading says %v: want true", why, Right(l), ok)
		}
	}
}

func TestListsThatAreNotValid(t *testing.T) {
	for why, l := range wrongLists() {
		if _, ok := told(l); ok || Right(l) {
			t.Errorf("%s: Right = %v, and the reading says %v: want false", why, Right(l), ok)
		}
	}
}

func TestListsOfOneOpen(t *testing.T) {
	for _, client := range numbers {
		for _, file := range numbers {
			for _, handle := range numbers {
				want := client != 0 && file != 0
				if o := open(client, handle, file, 1, 0); Right([]api.Open{o}) != want {
					t.Errorf("Right of %v: want %v", o, want)
				}
			}
		}
	}
	for _, access := range numbers {
		for _, deny := range numbers {
			want := (access == 1 || access == 2 || access == 3) && (deny == 0 || deny == 1 || deny == 2 || deny == 3)
			if o := open(1, 1, 9, access, deny); Right([]api.Open{o}) != want {
				t.Errorf("Right of %v: want %v", o, want)
			}
		}
	}
}

func TestOrderOfTwoOpens(t *testing.T) {
	for _, client := range numbers[1:] {
		for _, handle := range numbers {
			for _, other := range numbers[1:] {
				for _, next := range numbers {
					want := client < other || client == other && handle < next
					if got := Right([]api.Open{open(client, handle, 9, 3, 0), open(other, next, 9, 3, 0)}); got != want {
						t.Errorf("Right of the opens %d, %d and %d, %d = %v", client, handle, other, next, got)
					}
				}
			}
		}
	}
}

func TestNumbersOfOpens(t *testing.T) {
	for n := range 20 {
		if got := Right(crowd(5, 0, 20, n)); got != (n <= 4) {
			t.Errorf("Right of %d opens of a client = %v", n, got)
		}
		if got := Right(slices.Concat(crowd(4, 0, 50, 2), crowd(5, top-100, 20, n), crowd(6, 0, 60, 3))); got != (n <= 4) {
			t.Errorf("Right of %d opens of a client amidst others = %v", n, got)
		}
		if got := Right(mob(9, n)); got != (n <= 12) {
			t.Errorf("Right of %d opens = %v", n, got)
		}
	}
}

// conflictsByHand are the pairs of one Access and one Deny that have a common bit.
var conflictsByHand = map[[2]uint32]bool{{1, 1}: true, {1, 3}: true, {2, 2}: true, {2, 3}: true, {3, 1}: true, {3, 2}: true, {3, 3}: true}

func TestConflictsOfTwoOpens(t *testing.T) {
	for n := range uint32(12) {
		for m := range uint32(12) {
			a, b := open(2, 5, 9, 1+n/4, n%4), open(2, 6, 9, 1+m/4, m%4)
			want := conflictsByHand[[2]uint32{a.Access, b.Deny}] || conflictsByHand[[2]uint32{b.Access, a.Deny}]
			for _, client := range []uint32{2, 3, top} {
				b.Client, b.File = client, 9
				checkConflict(t, a, b, want)
				b.File = 8
				checkConflict(t, a, b, false)
			}
		}
	}
}

// checkConflict fails unless two opens, in the order of a list, conflict as is wanted, by Right and by Add in both orders.
func checkConflict(t *testing.T, a, b api.Open, want bool) {
	t.Helper()
	if got := Right([]api.Open{a, b}); got == want {
		t.Errorf("Right of %v, %v = %v", a, b, got)
	}
	for _, o := range [][2]api.Open{{a, b}, {b, a}} {
		now, err := Add([]api.Open{o[0]}, o[1])
		if want {
			fails(t, now, err, api.ErrShare, "Add of %v to %v", o[1], o[0])
		} else {
			same(t, now, err, []api.Open{a, b}, "Add of %v to %v", o[1], o[0])
		}
	}
}

func TestConflictsAtEachPlace(t *testing.T) {
	for i := range 12 {
		for j := range 12 {
			for n := range uint32(144) {
				l := fullest()
				l[i].File, l[j].File = 77, 77
				l[i].Access, l[i].Deny = 1+n/48, n/12%4
				l[j].Access, l[j].Deny = 1+n%12/4, n%4
				want := i == j || !conflictsByHand[[2]uint32{l[i].Access, l[j].Deny}] && !conflictsByHand[[2]uint32{l[j].Access, l[i].Deny}]
				if got := Right(l); got != want {
					t.Fatalf("Right of %v = %v", l, got)
				}
			}
		}
	}
}

// shaken is a list that is valid, or one that had been one ahead of a change or two.
func shaken(r *rand.Rand, l []api.Open) []api.Open {
	l = slices.Clone(l)
	if r.Intn(6) == 0 {
		l = append(l, open(uint32(r.Intn(12)), uint32(r.Intn(5)), 9, 1, 0))
	}
	for range min(r.Intn(4), len(l)) {
		i, j := r.Intn(len(l)), r.Intn(len(l))
		o := &l[i]
		switch r.Intn(8) {
		case 0:
			o.Client = numbers[r.Intn(len(numbers))]
		case 1:
			o.Client = l[j].Client
		case 2:
			o.Handle = numbers[r.Intn(len(numbers))]
		case 3:
			o.Handle = l[j].Handle
		case 4:
			o.File = []uint32{0, l[j].File, l[j].File, l[j].File, 9}[r.Intn(5)]
		case 5:
			o.Access = numbers[r.Intn(5)]
		case 6:
			o.Deny = numbers[r.Intn(5)]
		case 7:
			l[i], l[j] = l[j], l[i]
		}
	}
	return l
}

func TestRandomLists(t *testing.T) {
	r := rand.New(rand.NewSource(1))
	all := sorted()
	seen := map[bool]int{}
	for range 50000 {
		l := shaken(r, all[r.Intn(len(all))])
		_, want := told(l)
		if Right(l) != want {
			t.Fatalf("Right of %v = %v, want %v", l, Right(l), want)
		}
		seen[want]++
	}
	if seen[true] < 5000 || seen[false] < 5000 {
		t.Errorf("the lists are one-sided: %v", seen)
	}
}

// P11.1: Find, Uses and Has.

// anyLists are lists that are valid and lists that are not.
func anyLists() map[string][]api.Open {
	m := lists()
	maps.Copy(m, wrongLists())
	m["opens of one key"] = []api.Open{open(2, 3, 9, 2, 1), open(2, 3, 8, 1, 0), open(2, 3, 9, 3, 3), open(2, 3, 7, 0, 9)}
	m["zero opens among others"] = []api.Open{open(5, 1, 0, 4, 4), {}, open(0, 0, 7, 1, 0), {}, open(0, 2, 0, 0, 0), open(top, top, top, top, top)}
	m["falling"] = []api.Open{open(9, 9, 9, 1, 0), open(8, 9, 9, 1, 0), open(8, 8, 9, 1, 0), open(1, 9, 8, 1, 0)}
	return m
}

// asked are the numbers of a list, and such as are in none: of clients, handles and files alike. Of a long list just the first opens are looked at.
func asked(l []api.Open) []uint32 {
	m := map[uint32]bool{0: true, 1: true, 2: true, 9: true, top: true}
	for _, o := range l[:min(len(l), 16)] {
		m[o.Client], m[o.Handle], m[o.File], m[o.File+1] = true, true, true, true
	}
	return slices.Sorted(maps.Keys(m))
}

func TestFindUsesAndHasOfAnyList(t *testing.T) {
	for why, l := range anyLists() {
		first, uses, has := map[key]api.Open{}, map[uint32]int{}, map[[2]uint32]bool{}
		for _, o := range slices.Backward(l) {
			first[key{o.Client, o.Handle}] = o
			uses[o.File]++
			has[[2]uint32{o.Client, o.File}] = true
		}
		some := asked(l)
		if len(l) > 100 {
			some = []uint32{0, 1, 9, 10, 11, 10009}
		}
		for _, n := range some {
			if got := Uses(l, n); got != uses[n] {
				t.Errorf("%s: Uses of %d = %d, want %d", why, n, got, uses[n])
			}
			for _, m := range some {
				want, there := first[key{n, m}]
				if o, ok := Find(l, n, m); o != want || ok != there {
					t.Errorf("%s: Find of %d, %d = %v, %v, want %v, %v", why, n, m, o, ok, want, there)
				}
				if got := Has(l, n, m); got != has[[2]uint32{n, m}] {
					t.Errorf("%s: Has of %d, %d = %v", why, n, m, got)
				}
			}
		}
	}
}

func TestFind(t *testing.T) {
	twice := []api.Open{open(2, 3, 9, 2, 1), open(1, 3, 9, 1, 0), open(2, 3, 8, 1, 0), {}, open(0, 0, 5, 1, 1)}
	for _, c := range []struct {
		list           []api.Open
		client, handle uint32
		want           api.Open
		ok             bool
	}{
		{mixed(), 1, 0, open(1, 0, 7, 1, 0), true},
		{mixed(), 1, 9, open(1, 9, 8, 1, 0), true},
		{mixed(), 4, 3, open(4, 3, 7, 3, 0), true},
		{mixed(), 6, top, open(6, top, 7, 2, 0), true},
		{mixed(), top, 0, open(top, 0, top, 3, 3), true},
		{mixed(), 1, 3, api.Open{}, false},
		{mixed(), 4, 5, api.Open{}, false},
		{mixed(), top, top, api.Open{}, false},
		{mixed(), 2, 0, api.Open{}, false},
		{mixed(), 0, 0, api.Open{}, false},
		{mixed(), 5, 6, api.Open{}, false},
		{nil, 0, 0, api.Open{}, false},
		{nil, 1, 1, api.Open{}, false},
		{twice, 2, 3, open(2, 3, 9, 2, 1), true},
		{twice, 1, 3, open(1, 3, 9, 1, 0), true},
		{twice, 0, 0, api.Open{}, true},
		{twice, 2, 0, api.Open{}, false},
	} {
		if o, ok := Find(c.list, c.client, c.handle); o != c.want || ok != c.ok {
			t.Errorf("Find of %d, %d in %v = %v, %v, want %v, %v", c.client, c.handle, c.list, o, ok, c.want, c.ok)
		}
	}
}

func TestUses(t *testing.T) {
	for file, want := range map[uint32]int{0: 0, 1: 0, 2: 1, 3: 0, 4: 0, 5: 0, 6: 0, 7: 3, 8: 3, 9: 2, top: 1} {
		if got := Uses(mixed(), file); got != want {
			t.Errorf("Uses of %d = %d, want %d", file, got, want)
		}
	}
	for n := range 12 {
		if got := Uses(mob(9, n), 9); got != n {
			t.Errorf("Uses of a file with %d opens = %d", n, got)
		}
	}
	if got := Uses(mob(9, 10000), 9); got != 10000 {
		t.Errorf("Uses in a list of 10000 = %d", got)
	}
}

func TestHas(t *testing.T) {
	for _, c := range []struct {
		client, file uint32
		want         bool
	}{
		{1, 7, true}, {1, 8, true}, {1, 9, false}, {1, 0, false}, {1, 2, false},
		{4, 7, true}, {4, 8, false}, {4, 9, true},
		{6, 2, true}, {6, 7, true}, {6, 8, true}, {6, 9, true}, {6, top, false},
		{top, top, true}, {top, 7, false}, {top, 0, false},
		{0, 0, false}, {0, 7, false}, {5, 7, false}, {7, 4, false}, {7, 7, false},
	} {
		if got := Has(mixed(), c.client, c.file); got != c.want {
			t.Errorf("Has of %d, %d = %v, want %v", c.client, c.file, got, c.want)
		}
	}
	if Has(nil, 0, 0) || Has([]api.Open{}, 1, 1) {
		t.Error("Has of the empty list = true")
	}
}

// P11.2: Add.

func TestAdd(t *testing.T) {
	o := open(5, 5, 9, 3, 0)
	same(t, added(t, nil, o), api.OK, []api.Open{o}, "Add to nil")
	same(t, added(t, []api.Open{}, o), api.OK, []api.Open{o}, "Add to the empty list")
	l := []api.Open{open(3, 4, 7, 1, 2), o, open(5, 7, 8, 1, 0), open(8, 1, 9, 1, 0)}
	for at, o := range []api.Open{open(1, top, 6, 1, 0), open(4, 0, 6, 2, 3), open(5, 6, 9, 2, 0), open(7, 9, 7, 1, 2), open(top, 0, 9, 3, 0)} {
		same(t, added(t, l, o), api.OK, slices.Concat(l[:at], []api.Open{o}, l[at:]), "Add of %v", o)
	}
	// By the handle alone.
	for at, handle := range []uint32{3, 5, 9, top} {
		own := []api.Open{open(2, 4, 1, 3, 3), open(2, 6, 2, 3, 3), open(2, 10, 3, 3, 3)}
		o := open(2, handle, 4, 3, 3)
		same(t, added(t, own, o), api.OK, slices.Concat(own[:at], []api.Open{o}, own[at:]), "Add of the handle %d", handle)
	}
}

func TestAddAtTheEdges(t *testing.T) {
	for _, client := range []uint32{1, 2, top} {
		for _, handle := range []uint32{0, 1, top} {
			for _, file := range []uint32{1, 2, top} {
				for n := range uint32(12) {
					o := open(client, handle, file, 1+n/4, n%4)
					same(t, added(t, nil, o), api.OK, []api.Open{o}, "Add of %v", o)
				}
			}
		}
	}
	// The last one of a client, and the last one of a list.
	for i := range 4 {
		l := crowd(5, 0, 20, 4)
		same(t, added(t, slices.Delete(slices.Clone(l), i, i+1), l[i]), api.OK, l, "Add of a client's fourth open %v", l[i])
	}
	for i := range 12 {
		for _, l := range [][]api.Open{fullest(), mob(9, 12)} {
			same(t, added(t, slices.Delete(slices.Clone(l), i, i+1), l[i]), api.OK, l, "Add of a list's twelfth open %v", l[i])
		}
	}
	// Of unlike files, what is denied of one is no matter to the other.
	same(t, added(t, []api.Open{open(1, 1, 9, 3, 3)}, open(2, 1, 8, 3, 3)), api.OK, []api.Open{open(1, 1, 9, 3, 3), open(2, 1, 8, 3, 3)}, "Add of another file")
	// An open may deny what it has itself.
	same(t, added(t, nil, open(1, 1, 9, 3, 3)), api.OK, []api.Open{open(1, 1, 9, 3, 3)}, "Add of what denies all")
	// The client's own opens conflict as do those of others.
	now, err := Add([]api.Open{open(1, 1, 9, 1, 1)}, open(1, 2, 9, 1, 0))
	fails(t, now, err, api.ErrShare, "Add of what the client denies itself")
}

// addCase is an Add that can't be done.
type addCase struct {
	why  string
	list []api.Open
	o    api.Open
	want api.Errno
}

// addCases are errors of Add: each alone, and each together with another one that is asked later.
func addCases() []addCase {
	all, own := fullest(), crowd(5, 0, 20, 4)
	strict := []api.Open{open(1, 1, 9, 1, 3)}
	wrong := []api.Open{open(2, 1, 8, 3, 3), open(1, 1, 9, 1, 0)}
	wrongFull := changed(all, 11, func(o *api.Open) { o.Access = 0 })
	c := []addCase{
		{"not a valid list", wrong, open(3, 1, 7, 1, 0), api.ErrArg},
		{"not a valid list, there", wrong, open(2, 1, 7, 1, 0), api.ErrArg},
		{"not a valid list, the client full", crowd(5, 0, 20, 5), open(5, 9, 7, 1, 0), api.ErrArg},
		{"not a valid list, full", wrongFull, open(50, 9, 7, 1, 0), api.ErrArg},
		{"not a valid list, more than full", mob(9, 13), open(50, 9, 7, 1, 0), api.ErrArg},
		{"not a valid list, a conflict", wrong, open(3, 1, 8, 1, 0), api.ErrArg},
		{"not a valid list, all of it", wrongFull, open(9, 32, 109, 3, 3), api.ErrArg},
		{"not a valid list and not a valid open", wrong, open(3, 1, 7, 0, 0), api.ErrArg},

		{"not valid, there", strict, open(1, 1, 9, 4, 0), api.ErrArg},
		{"not valid, there, no file", strict, open(1, 1, 0, 1, 0), api.ErrArg},
		{"not valid, the client full", own, open(5, 9, 7, 0, 0), api.ErrArg},
		{"not valid, full", all, open(50, 9, 0, 1, 0), api.ErrArg},
		{"not valid, full, no client", all, open(0, 9, 7, 1, 0), api.ErrArg},
		{"not valid, a conflict by its access", strict, open(2, 1, 9, 5, 0), api.ErrArg},
		{"not valid, a conflict by its deny", strict, open(2, 1, 9, 1, 7), api.ErrArg},
		{"not valid, a conflict by its deny alone", []api.Open{open(1, 1, 9, 1, 0)}, open(2, 1, 9, 0, 1), api.ErrArg},
		{"not valid, no client, a conflict", strict, open(0, 1, 9, 1, 0), api.ErrArg},
		{"not valid, all of it", all, open(9, 32, 111, 4, 4), api.ErrArg},

		{"there", strict, open(1, 1, 8, 1, 0), api.ErrThere},
		{"there, the same open", []api.Open{open(1, 1, 9, 1, 0)}, open(1, 1, 9, 1, 0), api.ErrThere},
		{"there, the first", mixed(), open(1, 0, 50, 1, 0), api.ErrThere},
		{"there, the last", mixed(), open(top, 0, 50, 1, 0), api.ErrThere},
		{"there, the greatest", []api.Open{open(top, top, 9, 1, 0)}, open(top, top, 9, 1, 0), api.ErrThere},
		{"there, the client full", own, open(5, 2, 7, 1, 0), api.ErrThere},
		{"there, full", mob(9, 12), open(12, 2, 7, 1, 0), api.ErrThere},
		{"there, both full", all, open(5, 12, 7, 1, 0), api.ErrThere},
		{"there, a conflict with itself", strict, open(1, 1, 9, 1, 0), api.ErrThere},
		{"there, a conflict with another one", []api.Open{open(1, 1, 8, 1, 0), open(2, 1, 9, 1, 3)}, open(1, 1, 9, 1, 0), api.ErrThere},
		{"there, all of it", all, open(9, 32, 111, 1, 3), api.ErrThere},

		{"the client full", own, open(5, 9, 7, 1, 0), api.ErrMany},
		{"the client full, ahead", crowd(5, 1, 20, 4), open(5, 0, 7, 1, 0), api.ErrMany},
		{"the client full, amidst others", slices.Concat(crowd(4, 0, 20, 3), crowd(5, 0, 30, 4), crowd(6, 0, 40, 4)), open(5, 4, 7, 1, 0), api.ErrMany},
		{"the client full, of one file", []api.Open{open(1, 0, 9, 1, 0), open(1, 1, 9, 1, 0), open(1, 2, 9, 1, 0), open(1, 3, 9, 1, 0)}, open(1, 4, 9, 1, 0), api.ErrMany},
		{"the greatest client full", crowd(top, 0, 20, 4), open(top, top, 7, 1, 0), api.ErrMany},
		{"full", mob(9, 12), open(50, 9, 7, 1, 0), api.ErrMany},
		{"full, the client has one", mob(9, 12), open(10, 9, 7, 1, 0), api.ErrMany},
		{"full, ahead", all, open(1, 0, 7, 1, 0), api.ErrMany},
		{"both full", all, open(5, 0, 7, 1, 0), api.ErrMany},
		{"the client full, a conflict", own, open(5, 9, 20, 1, 3), api.ErrMany},
		{"full, a conflict", mob(9, 12), open(50, 9, 9, 1, 1), api.ErrMany},
		{"full, a conflict the other way", all, open(50, 9, 111, 3, 0), api.ErrMany},
		{"both full, a conflict", all, open(5, 0, 111, 3, 3), api.ErrMany},

		{"a conflict with the first", mixed(), open(2, 0, 7, 1, 1), api.ErrShare},
		{"a conflict with the last", mixed(), open(2, 0, top, 1, 0), api.ErrShare},
		{"a conflict with one amidst", mixed(), open(2, 0, 9, 1, 0), api.ErrShare},
		{"a conflict by what it denies", mixed(), open(2, 0, 8, 1, 1), api.ErrShare},
		{"a conflict with each", mob(9, 11), open(50, 0, 9, 1, 2), api.ErrShare},
		{"a conflict of a client's fourth", crowd(5, 0, 20, 3), open(5, 9, 21, 1, 0), api.ErrShare},
		{"a conflict of the twelfth", all[1:], open(50, 0, 111, 1, 0), api.ErrShare},
	}
	for i, o := range wrongOpens() {
		for why, l := range lists() {
			c = append(c, addCase{fmt.Sprintf("not valid, open %d, %s", i, why), l, o, api.ErrArg})
		}
	}
	return c
}

// applying are all errors of Add that apply to a list and an open, in the chapter's order.
func applying(l []api.Open, o api.Open) []api.Errno {
	_, listed := told(l)
	_, _, valid := read(o)
	var there, common bool
	own := 0
	for _, p := range l {
		there = there || p.Client == o.Client && p.Handle == o.Handle
		common = common || p.File == o.File && (p.Access&o.Deny > 0 || o.Access&p.Deny > 0)
		if p.Client == o.Client {
			own++
		}
	}
	var all []api.Errno
	for _, x := range []struct {
		applies bool
		err     api.Errno
	}{{!listed || !valid, api.ErrArg}, {there, api.ErrThere}, {own >= 4 || len(l) >= 12, api.ErrMany}, {common, api.ErrShare}} {
		if x.applies {
			all = append(all, x.err)
		}
	}
	return all
}

func TestErrorsOfAdd(t *testing.T) {
	seen := map[string]int{}
	for _, c := range addCases() {
		l, err := Add(c.list, c.o)
		fails(t, l, err, c.want, "%s: Add of %v", c.why, c.o)
		all := applying(c.list, c.o)
		if len(all) == 0 || all[0] != c.want {
			t.Errorf("%s: of %v the errors %d apply, and %d is wanted", c.why, c.o, all, c.want)
		}
		seen[fmt.Sprint(all)]++
	}
	// Each error alone, and each together with each of those that come later.
	for _, k := range []string{"[1]", "[8]", "[16]", "[13]", "[1 8]", "[1 16]", "[1 13]", "[8 16]", "[8 13]", "[16 13]", "[8 16 13]", "[1 8 16 13]"} {
		if seen[k] == 0 {
			t.Errorf("the errors %s are not asked for", k)
		}
	}
}

func TestAddAgainstAReading(t *testing.T) {
	for why, l := range lists() {
		x, _ := told(l)
		for _, o := range beside(l) {
			now, err := Add(l, o)
			y, want := x.added(o)
			answers(t, now, err, y, want, "%s: Add of %v", why, o)
		}
	}
}

// P11.2: Drop and Clear.

func TestDropOfEachOpen(t *testing.T) {
	for why, l := range lists() {
		for i, want := range l {
			now, o, err := Drop(l, want.Client, want.Handle)
			same(t, now, err, slices.Concat(l[:i], l[i+1:]), "%s: Drop of %v", why, want)
			if o != want {
				t.Errorf("%s: Drop of %v answers %v", why, want, o)
			}
		}
	}
}

func TestErrorsOfDrop(t *testing.T) {
	one, few := []api.Open{open(2, 3, 9, 1, 0)}, mixed()
	wrong := []api.Open{open(2, 1, 8, 1, 0), open(1, 1, 9, 1, 0)}
	for _, c := range []struct {
		why            string
		list           []api.Open
		client, handle uint32
		want           api.Errno
	}{
		{"not a valid list, there", wrong, 2, 1, api.ErrArg},
		{"not a valid list, the last one", wrong, 1, 1, api.ErrArg},
		{"not a valid list, not there", wrong, 3, 1, api.ErrArg},
		{"not a valid list, the client 0, not there", wrong, 0, 0, api.ErrArg},
		{"not a valid list, the client 0, there", []api.Open{open(0, 0, 9, 1, 0)}, 0, 0, api.ErrArg},
		{"a list that would be valid without it", []api.Open{open(1, 1, 9, 1, 2), open(2, 1, 9, 2, 0)}, 2, 1, api.ErrArg},
		{"too long a list", mob(9, 13), 10, 0, api.ErrArg},
		{"nil", nil, 1, 1, api.ErrFd},
		{"nil, all 0", nil, 0, 0, api.ErrFd},
		{"the empty list", []api.Open{}, 2, 3, api.ErrFd},
		{"another handle", one, 2, 4, api.ErrFd},
		{"another handle, ahead", one, 2, 2, api.ErrFd},
		{"another client", one, 3, 3, api.ErrFd},
		{"another client, ahead", one, 1, 3, api.ErrFd},
		{"the client 0", one, 0, 3, api.ErrFd},
		{"the handle 0", one, 2, 0, api.ErrFd},
		{"the greatest", one, top, top, api.ErrFd},
		{"client and handle the other way round", one, 3, 2, api.ErrFd},
		{"another's handle", few, 4, 9, api.ErrFd},
		{"another's handle, the greatest", few, top, top, api.ErrFd},
		{"a file for a handle", few, 1, 7, api.ErrFd},
	} {
		l, o, err := Drop(c.list, c.client, c.handle)
		fails(t, l, err, c.want, "%s: Drop of %d, %d", c.why, c.client, c.handle)
		if o != (api.Open{}) {
			t.Errorf("%s: Drop of %d, %d answers %v beside an error", c.why, c.client, c.handle, o)
		}
	}
}

func TestDropAgainstAReading(t *testing.T) {
	for why, l := range lists() {
		x, _ := told(l)
		for _, client := range asked(l) {
			for _, handle := range asked(l) {
				now, o, err := Drop(l, client, handle)
				y, want, e := x.dropped(client, handle)
				answers(t, now, err, y, e, "%s: Drop of %d, %d", why, client, handle)
				if o != want {
					t.Errorf("%s: Drop of %d, %d answers %v, want %v", why, client, handle, o, want)
				}
			}
		}
	}
}

func TestClear(t *testing.T) {
	l := mixed()
	for _, c := range []struct {
		client uint32
		want   []api.Open
	}{
		{1, l[3:]},
		{4, slices.Concat(l[:3], l[5:])},
		{6, slices.Concat(l[:5], l[9:])},
		{top, l[:9]},
		{0, l}, {2, l}, {5, l}, {7, l}, {8, l}, {9, l}, {top - 1, l},
	} {
		same(t, cleared(t, l, c.client), api.OK, c.want, "Clear of %d", c.client)
	}
	for _, client := range []uint32{0, 1, 5, top} {
		same(t, cleared(t, nil, client), api.OK, nil, "Clear of %d from nil", client)
		same(t, cleared(t, []api.Open{}, client), api.OK, nil, "Clear of %d from the empty list", client)
	}
	same(t, cleared(t, crowd(5, 0, 20, 4), 5), api.OK, nil, "Clear of the only client")
	same(t, cleared(t, crowd(top, 0, 20, 4), top), api.OK, nil, "Clear of the greatest client")
}

func TestClearAgainstAReading(t *testing.T) {
	for why, l := range lists() {
		x, _ := told(l)
		for _, client := range asked(l) {
			now, err := Clear(l, client)
			answers(t, now, err, x.cleared(client), api.OK, "%s: Clear of %d", why, client)
		}
	}
}

// The error that Add, Drop and Clear have.

func TestListsMustBeValid(t *testing.T) {
	for why, l := range wrongLists() {
		asks := []api.Open{open(1, 1, 9, 1, 0), open(7, 7, 7, 1, 0), open(top, top, top, 3, 3), open(5, 50, 99, 1, 0), {}, open(1, 1, 9, 0, 0), open(0, 1, 9, 1, 0)}
		for _, o := range append(asks, l[:min(len(l), 13)]...) {
			now, err := Add(l, o)
			fails(t, now, err, api.ErrArg, "%s: Add of %v", why, o)
			now, was, err := Drop(l, o.Client, o.Handle)
			fails(t, now, err, api.ErrArg, "%s: Drop of %d, %d", why, o.Client, o.Handle)
			if was != (api.Open{}) {
				t.Errorf("%s: Drop of %d, %d answers %v beside an error", why, o.Client, o.Handle, was)
			}
			now, err = Clear(l, o.Client)
			fails(t, now, err, api.ErrArg, "%s: Clear of %d", why, o.Client)
		}
	}
}

// Common rule 4: memory.

// junk is an open that is in no list.
var junk = open(0, 88, 0, 99, 99)

// roomy is a copy of a list with spare capacity, in which something lies.
func roomy(l []api.Open) []api.Open {
	m := append(slices.Clone(l), slices.Repeat([]api.Open{junk}, 30)...)
	return m[:len(l):len(m)]
}

// whole is a copy of a list's memory, its spare capacity too.
func whole(l []api.Open) []api.Open { return slices.Clone(l[:cap(l)]) }

// spoil writes over a list's memory.
func spoil(l []api.Open) {
	l = l[:cap(l)]
	for i := range l {
		l[i] = open(66, 66, 66, 66, 66)
	}
}

// keeps fails unless a call leaves the list that is handed in as it was, and answers new memory, each time it is called.
func keeps(t *testing.T, l []api.Open, why string, call func(l []api.Open) []api.Open) {
	t.Helper()
	arg := roomy(l)
	before := whole(arg)
	first := call(arg)
	if !slices.Equal(whole(arg), before) {
		t.Errorf("%s: the list that was handed in is %v, was %v", why, whole(arg), before)
	}
	want := slices.Clone(first)
	spoil(first)
	if !slices.Equal(whole(arg), before) {
		t.Errorf("%s: what was answered shares memory with what was handed in", why)
	}
	second := call(arg)
	if !slices.Equal(second, want) {
		t.Errorf("%s: the same call answers %v, then %v", why, want, second)
	}
	spoil(first)
	spoil(arg)
	if !slices.Equal(second, want) {
		t.Errorf("%s: what was answered changes with other memory", why)
	}
}

// keepsAll fails unless all functions keep to what is said of memory, asked for an open.
func keepsAll(t *testing.T, l []api.Open, why string, o api.Open) {
	t.Helper()
	why = fmt.Sprintf("%s: %v", why, o)
	keeps(t, l, why+", Add", func(l []api.Open) []api.Open {
		now, _ := Add(l, o)
		return now
	})
	keeps(t, l, why+", Drop", func(l []api.Open) []api.Open {
		now, _, _ := Drop(l, o.Client, o.Handle)
		return now
	})
	keeps(t, l, why+", the open that is dropped", func(l []api.Open) []api.Open {
		_, o, _ := Drop(l, o.Client, o.Handle)
		return []api.Open{o}
	})
	keeps(t, l, why+", Clear", func(l []api.Open) []api.Open {
		now, _ := Clear(l, o.Client)
		return now
	})
	keeps(t, l, why+", the others", func(l []api.Open) []api.Open {
		Right(l)
		Uses(l, o.File)
		Has(l, o.Client, o.File)
		o, _ := Find(l, o.Client, o.Handle)
		return []api.Open{o}
	})
}

func TestListsAreNewMemory(t *testing.T) {
	for why, l := range lists() {
		for _, o := range append(slices.Clone(l), open(1, 4, 50, 1, 0), open(5, 4, 50, 1, 0), open(8, 8, 50, 1, 0), open(top, 50, 50, 1, 0), open(8, 8, 9, 3, 3), open(0, 0, 0, 0, 0)) {
			keepsAll(t, l, why, o)
		}
	}
}

func TestWrongListsStayAsTheyAre(t *testing.T) {
	for why, l := range wrongLists() {
		if len(l) > 100 {
			continue
		}
		for _, o := range []api.Open{l[0], l[len(l)-1], open(8, 8, 50, 1, 0)} {
			keepsAll(t, l, why, o)
		}
	}
}

// P11.3 to P11.6.

// addsAndDrops fails unless what was added is found, and dropping it restores the list; it says whether there was something to do.
func addsAndDrops(t *testing.T, l []api.Open, o api.Open) bool {
	t.Helper()
	now, err := Add(l, o)
	if err != api.OK {
		return false
	}
	uses, has := Uses(l, o.File), Has(l, o.Client, o.File)
	if _, there := Find(l, o.Client, o.Handle); there || has && uses == 0 {
		t.Fatalf("Add of %v to %v, in which it is", o, l)
	}
	if f, ok := Find(now, o.Client, o.Handle); f != o || !ok {
		t.Fatalf("Add of %v to %v, and Find = %v, %v", o, l, f, ok)
	}
	if !Has(now, o.Client, o.File) || Uses(now, o.File) != uses+1 {
		t.Fatalf("Add of %v to %v, and Has = %v, Uses = %d", o, l, Has(now, o.Client, o.File), Uses(now, o.File))
	}
	back, was, err := Drop(now, o.Client, o.Handle)
	if err != api.OK || was != o || !slices.Equal(back, l) {
		t.Fatalf("Add of %v to %v, and Drop = %v, %v, %d", o, l, back, was, err)
	}
	return true
}

// peaceful fails unless a list is valid and nobody has a file open for what another open denies.
func peaceful(t *testing.T, l []api.Open, format string, a ...any) {
	t.Helper()
	if _, ok := told(l); !ok || !Right(l) {
		t.Fatalf(format+" = %v: Right = %v, and the reading says %v", append(a, l, Right(l), ok)...)
	}
	for i, o := range l {
		for j, p := range l {
			reads := o.Access == 1 || o.Access == 3
			noReads := p.Deny == 1 || p.Deny == 3
			writes := o.Access == 2 || o.Access == 3
			noWrites := p.Deny == 2 || p.Deny == 3
			if i != j && o.File == p.File && (reads && noReads || writes && noWrites) {
				t.Fatalf(format+" = %v: %v has open what %v denies", append(a, l, o, p)...)
			}
		}
	}
}

func TestResultsAreValid(t *testing.T) {
	for why, l := range lists() {
		for _, o := range beside(l) {
			if now, err := Add(l, o); err == api.OK {
				peaceful(t, now, "%s: Add of %v", why, o)
			}
		}
		for _, client := range asked(l) {
			if now, err := Clear(l, client); err == api.OK {
				peaceful(t, now, "%s: Clear of %d", why, client)
			}
			for _, handle := range asked(l) {
				if now, _, err := Drop(l, client, handle); err == api.OK {
					peaceful(t, now, "%s: Drop of %d, %d", why, client, handle)
				}
			}
		}
	}
}

func TestWhatWasAddedIsFoundAndDropped(t *testing.T) {
	done := 0
	for _, l := range lists() {
		for _, o := range beside(l) {
			if addsAndDrops(t, l, o) {
				done++
			}
		}
	}
	if done < 1000 {
		t.Errorf("only %d were added", done)
	}
}

func TestNobodyReadsWhatIsDenied(t *testing.T) {
	for why, l := range lists() {
		for _, o := range l {
			for _, client := range []uint32{o.Client, 2, top} {
				reader, guard := open(client, 77, o.File, 1, 0), open(client, 78, o.File, 2, 1)
				if now, err := Add(l, reader); o.Deny%2 == 1 && err == api.OK {
					t.Errorf("%s: Add of %v = %v, though %v denies it", why, reader, now, o)
				}
				if now, err := Add(l, guard); o.Access%2 == 1 && err == api.OK {
					t.Errorf("%s: Add of %v = %v, though %v reads", why, guard, now, o)
				}
			}
		}
	}
}

// eitherOrder fails unless two opens lead to one list in either order, or fail in both; it says whether they did.
func eitherOrder(t *testing.T, l []api.Open, a, b api.Open) bool {
	t.Helper()
	both := func(a, b api.Open) ([]api.Open, api.Errno) {
		now, err := Add(l, a)
		if err != api.OK {
			return nil, err
		}
		return Add(now, b)
	}
	one, err := both(a, b)
	other, e := both(b, a)
	if (err == api.OK) != (e == api.OK) || !slices.Equal(one, other) {
		t.Fatalf("Add of %v and %v to %v = %v, %d, in the other order %v, %d", a, b, l, one, err, other, e)
	}
	return err == api.OK
}

func TestTwoOpensInEitherOrder(t *testing.T) {
	r := rand.New(rand.NewSource(2))
	done := 0
	for _, l := range sorted() {
		all := beside(l)
		for range 5000 {
			if eitherOrder(t, l, all[r.Intn(len(all))], all[r.Intn(len(all))]) {
				done++
			}
		}
	}
	if done < 1000 {
		t.Errorf("only %d pairs were added", done)
	}
}

// stepper does random things to a list and to its telling.
type stepper struct {
	t    *testing.T
	r    *rand.Rand
	list []api.Open
	x    telling
	done map[string]int
}

// open is an open that mostly may be.
func (s *stepper) open() api.Open {
	handle := uint32(s.r.Intn(6))
	if s.r.Intn(10) == 0 {
		handle = top
	}
	o := open([]uint32{1, 2, 3, 17, 18, top}[s.r.Intn(6)], handle, []uint32{1, 2, 3, 4, 5, 6, 7, 8, 9, top}[s.r.Intn(10)], uint32(1+s.r.Intn(3)), uint32(s.r.Intn(4)))
	if s.r.Intn(3) > 0 {
		o.Deny = 0
	}
	if s.r.Intn(20) == 0 {
		*[]*uint32{&o.Client, &o.File, &o.Access, &o.Deny}[s.r.Intn(4)] = []uint32{0, 4}[s.r.Intn(2)]
	}
	return o
}

// step does one thing, and takes it over if it can be done.
func (s *stepper) step() {
	t := s.t
	t.Helper()
	var now []api.Open
	var y telling
	var err, want api.Errno
	var what string
	o := s.open()
	switch k := s.r.Intn(40); {
	case k < 27:
		what = fmt.Sprintf("Add of %v", o)
		addsAndDrops(t, s.list, o)
		eitherOrder(t, s.list, o, s.open())
		now, err = Add(s.list, o)
		y, want = s.x.added(o)
	case k < 39:
		what = fmt.Sprintf("Drop of %d, %d", o.Client, o.Handle)
		now, _, err = Drop(s.list, o.Client, o.Handle)
		y, _, want = s.x.dropped(o.Client, o.Handle)
	default:
		what = fmt.Sprintf("Clear of %d", o.Client)
		now, err = Clear(s.list, o.Client)
		y = s.x.cleared(o.Client)
	}
	answers(t, now, err, y, want, "%s in %v", what, s.list)
	s.done[fmt.Sprintf("%s, error %d", what[:4], err)]++
	if err == api.OK && want == api.OK {
		peaceful(t, now, "%s in %v", what, s.list)
		s.list, s.x = now, y
	}
}

func TestRandomRuns(t *testing.T) {
	r := rand.New(rand.NewSource(3))
	done := map[string]int{}
	for _, l := range sorted() {
		x, _ := told(l)
		s := stepper{t: t, r: r, list: l, x: x, done: done}
		for range 2000 {
			s.step()
			if t.Failed() {
				return
			}
		}
	}
	for _, k := range []string{"Add , error 0", "Add , error 1", "Add , error 8", "Add , error 13", "Add , error 16", "Drop, error 0", "Drop, error 14", "Clea, error 0"} {
		if done[k] < 20 {
			t.Errorf("%s: only %d times", k, done[k])
		}
	}
}
