package ledger

import (
	"encoding/binary"
	"math/rand"
	"slices"
	"sort"
	"strings"
	"testing"

	"lamella/api"
	"lamella/proto"
)

// Rows that are told by hand.

// four are numbers' bytes.
func four(l ...uint32) string {
	var b []byte
	for _, n := range l {
		b = binary.BigEndian.AppendUint32(b, n)
	}
	return string(b)
}

// text is a string's bytes.
func text(s string) string {
	return four(uint32(len(s))) + s + strings.Repeat("\x00", (4-len(s)%4)%4)
}

// flag is a flag's number.
func flag(b bool) uint32 {
	if b {
		return 1
	}
	return 0
}

// packet are a packet's bytes.
func packet(p api.Packet) string {
	o := p.Op
	return four(uint32(p.Kind), uint32(p.From), uint32(p.To), p.Life, p.Seq, p.Asked, p.Boot) +
		four(uint32(o.Code), uint32(o.Err), o.File, o.Epoch, o.Off, o.Len, o.Size, o.Mode, o.Deny, o.Handle) +
		text(o.Path) + text(o.Other) + text(o.Data)
}

// laid are a state's rows, as the chapter's table tells them, by the order of their keys' bytes.
func laid(s api.State) []api.Change {
	l := []api.Change{{Key: "I", Value: four(s.Next)}, {Key: "B", Value: four(s.Boot)}}
	add := func(key, value string) { l = append(l, api.Change{Key: key, Value: value}) }
	for _, w := range s.Works {
		add("W"+four(w.File), four(w.Client, w.Life, w.Seq, uint32(w.Code), w.Off, w.Len)+text(w.Data))
	}
	for _, h := range s.Seats {
		add("S"+four(h.Client), packet(h.Reply))
	}
	for _, o := range s.Opens {
		add("O"+four(o.Client, o.Handle), four(o.File, o.Access, o.Deny))
	}
	for _, n := range s.Tree {
		if n.Id != 1 {
			add("N"+four(n.Id), four(n.Parent, flag(n.Dir), n.Size)+text(n.Name))
		}
	}
	for _, k := range s.Locks {
		v := four(k.Epoch, k.Used, k.Cut, flag(k.Fenced), flag(k.Gone), uint32(2*len(k.Holders)))
		for _, h := range k.Holders {
			v += four(h.Client, h.Mode)
		}
		add("L"+four(k.File), v)
	}
	sort.Slice(l, func(i, j int) bool { return l[i].Key < l[j].Key })
	return l
}

// A second telling of reading: by hand, and strictly.

// cutter takes numbers from a text.
type cutter struct {
	s   string
	bad bool
}

func (c *cutter) number() uint32 {
	if len(c.s) < 4 {
		c.bad = true
		return 0
	}
	n := binary.BigEndian.Uint32([]byte(c.s))
	c.s = c.s[4:]
	return n
}

func (c *cutter) flag() bool {
	n := c.number()
	c.bad = c.bad || n > 1
	return n == 1
}

func (c *cutter) text() string {
	n := int(c.number())
	if n > len(c.s) || (n+3)/4*4 > len(c.s) || strings.Trim(c.s[n:(n+3)/4*4], "\x00") != "" {
		c.bad = true
		return ""
	}
	s := c.s[:n]
	c.s = c.s[(n+3)/4*4:]
	return s
}

func (c *cutter) end() bool { return !c.bad && c.s == "" }

// took is the state that rows tell, and whether they have the form of rows: its validity is asked elsewhere.
func took(l []api.Change) (api.State, bool) {
	s := api.State{Tree: []api.Inode{{Id: 1, Dir: true}}}
	if len(l) == 0 {
		s.Next = 2
		return s, true
	}
	count := map[string]int{}
	for i, c := range l {
		if c.Key == "" || c.Gone || i > 0 && l[i-1].Key >= c.Key {
			return s, false
		}
		count[c.Key[:1]]++
		if !takeRow(&s, c.Key[:1], &cutter{s: c.Key[1:]}, &cutter{s: c.Value}) {
			return s, false
		}
	}
	return s, count["B"] == 1 && count["I"] == 1
}

// takeRow takes one row.
func takeRow(s *api.State, letter string, k, v *cutter) bool {
	switch letter {
	case "B":
		s.Boot = v.number()
	case "I":
		s.Next = v.number()
	case "N":
		n := api.Inode{Id: k.number(), Parent: v.number(), Dir: v.flag(), Size: v.number(), Name: v.text()}
		if n.Id == 1 {
			return false
		}
		s.Tree = append(s.Tree, n)
	case "O":
		s.Opens = append(s.Opens, api.Open{Client: k.number(), Handle: k.number(), File: v.number(), Access: v.number(), Deny: v.number()})
	case "L":
		l := api.Lock{File: k.number(), Epoch: v.number(), Used: v.number(), Cut: v.number(), Fenced: v.flag(), Gone: v.flag()}
		n := v.number()
		if n%2 != 0 {
			return false
		}
		for i := uint32(0); i < n && !v.bad; i += 2 {
			l.Holders = append(l.Holders, api.Holder{Client: v.number(), Mode: v.number()})
		}
		s.Locks = append(s.Locks, l)
	case "W":
		s.Works = append(s.Works, api.Work{File: k.number(), Client: v.number(), Life: v.number(), Seq: v.number(), Code: int(v.number()), Off: v.number(), Len: v.number(), Data: v.text()})
	case "S":
		p, err := proto.Read(v.s)
		s.Seats = append(s.Seats, api.Heard{Client: k.number(), Reply: p})
		v.s = ""
		return err == api.OK && k.end()
	default:
		return false
	}
	return k.end() && v.end()
}

// checkRead holds Read of rows against the second telling, and says whether they are a state's.
func checkRead(t *testing.T, l []api.Change) bool {
	t.Helper()
	kept := slices.Clone(l)
	want, is := took(l)
	is = is && len(reasons(want)) == 0
	got, err := Read(l)
	switch {
	case is && (err != api.OK || told(got) != told(want)):
		t.Fatalf("Read(%v) = %v, %d, not %v", l, got, err, want)
	case !is && (err != api.ErrSpoilt || told(got) != told(api.State{})):
		t.Fatalf("Read(%v) = %v, %d, though it is spoilt", l, got, err)
	case !slices.Equal(l, kept):
		t.Fatalf("Read changed the rows")
	}
	return is
}

// states are valid states: small and rich ones, those behind each change that leaves the rich one valid, and random ones.
func states() []api.State {
	l := []api.State{Fresh(), small(), rich(), {Boot: top, Next: top, Tree: root()}}
	for _, b := range harmless() {
		l = append(l, changed(rich(), b.change))
	}
	r := rand.New(rand.NewSource(2))
	for range 200 {
		l = append(l, random(r))
	}
	return l
}

// harmless are the changes that break nothing.
func harmless() []broken {
	return slices.DeleteFunc(breaks(), func(b broken) bool { return len(b.why) > 0 })
}

// P14.1: Rows are the state's, as the chapter's table tells them, in increasing order of their keys.
func TestRows(t *testing.T) {
	for _, s := range states() {
		kept := told(s)
		got, err := Rows(s)
		if want := laid(s); err != api.OK || !slices.Equal(got, want) {
			t.Fatalf("Rows(%v) = %v, %d, not %v", s, got, err, want)
		}
		if told(s) != kept {
			t.Fatalf("Rows changed %s", kept)
		}
		for i := range got[1:] {
			if got[i].Key >= got[i+1].Key {
				t.Fatalf("the keys %v don't rise", got)
			}
		}
		for _, c := range got {
			if c.Gone || len(c.Key) > api.MaxKey || len(c.Value) > api.MaxValue {
				t.Fatalf("%v can't be a row", c)
			}
		}
	}
}

// P14.1: Rows answers ErrArg for each state that is not valid.
func TestRowsOfNone(t *testing.T) {
	for _, b := range breaks() {
		if len(b.why) == 0 {
			continue
		}
		got, err := Rows(changed(rich(), b.change))
		if len(got) > 0 || err != api.ErrArg {
			t.Errorf("%s: Rows = %v, %d", b.name, got, err)
		}
	}
	if got, err := Rows(api.State{}); len(got) > 0 || err != api.ErrArg {
		t.Errorf("Rows of no state = %v, %d", got, err)
	}
}

// The chapter's examples: the rows of Fresh are B: 0 and I: 2; a file /a with the number 2 has the row N 2: parent 1, no directory, size 0, a.
func TestExample(t *testing.T) {
	got, err := Rows(Fresh())
	want := []api.Change{{Key: "B", Value: "\x00\x00\x00\x00"}, {Key: "I", Value: "\x00\x00\x00\x02"}}
	if err != api.OK || !slices.Equal(got, want) {
		t.Errorf("Rows(Fresh()) = %v, %d", got, err)
	}
	got, err = Rows(small())
	row := api.Change{Key: "N\x00\x00\x00\x02", Value: "\x00\x00\x00\x01\x00\x00\x00\x00\x00\x00\x00\x00\x00\x00\x00\x01a\x00\x00\x00"}
	if err != api.OK || !slices.Contains(got, row) || len(got) != 4 {
		t.Errorf("Rows(small()) = %v, %d", got, err)
	}
}

// P14.2, P14.4: reading the rows of a state yields the state.
func TestReadRows(t *testing.T) {
	for _, s := range states() {
		l, _ := Rows(s)
		got, err := Read(l)
		if err != api.OK || told(got) != told(s) || !Same(got, s) {
			t.Fatalf("Read(%v) = %v, %d, not %v", l, got, err, s)
		}
		checkRead(t, l)
	}
}

// P14.2: for no rows, Read is Fresh.
func TestReadNothing(t *testing.T) {
	for _, l := range [][]api.Change{nil, {}} {
		if got, err := Read(l); err != api.OK || told(got) != told(Fresh()) {
			t.Errorf("Read of nothing = %v, %d", got, err)
		}
	}
}

// P14.4: different states have different rows.
func TestRowsDiffer(t *testing.T) {
	by := map[string]string{}
	for _, s := range states() {
		l, _ := Rows(s)
		text := ""
		for _, c := range l {
			text += four(uint32(len(c.Key)), uint32(len(c.Value))) + c.Key + c.Value
		}
		if other, there := by[text]; there && other != told(s) {
			t.Fatalf("%s and %s have the same rows", other, told(s))
		}
		by[text] = told(s)
	}
	if len(by) < 200 {
		t.Errorf("only %d states", len(by))
	}
}

// spoil are texts that come of one: each byte turned, left out or doubled.
func spoil(s string) []string {
	l := []string{"", s + "\x00", s + "\x00\x00\x00\x00", "\x00" + s, s + s}
	for i := range len(s) {
		for _, x := range []byte{1, 2, 3, 0x20, 0x80, 0xff} {
			l = append(l, s[:i]+string([]byte{s[i] ^ x})+s[i+1:])
		}
		l = append(l, s[:i]+s[i+1:], s[:i]+s[i:i+1]+s[i:], s[:i])
	}
	return l
}

// P14.2: rows of which a byte is turned, left out or doubled are read as the state that has just these rows, or are ErrSpoilt.
func TestReadSpoiltBytes(t *testing.T) {
	seen := map[bool]int{}
	for _, s := range []api.State{Fresh(), small(), rich()} {
		l, _ := Rows(s)
		for i := range l {
			for _, key := range spoil(l[i].Key) {
				x := slices.Clone(l)
				x[i].Key = key
				seen[checkRead(t, x)]++
			}
			for _, value := range spoil(l[i].Value) {
				x := slices.Clone(l)
				x[i].Value = value
				seen[checkRead(t, x)]++
			}
		}
	}
	if seen[true] < 500 || seen[false] < 5000 {
		t.Errorf("seen %v", seen)
	}
}

// P14.2: rows that are left out, doubled, out of order or Gone.
func TestReadSpoiltRows(t *testing.T) {
	for _, s := range []api.State{Fresh(), small(), rich()} {
		l, _ := Rows(s)
		for i, c := range l {
			left := slices.Delete(slices.Clone(l), i, i+1)
			checkRead(t, left)
			lone := []api.Change{c}
			if checkRead(t, lone) {
				t.Errorf("%v alone is a state", c)
			}
			for j := range l {
				bad := [][]api.Change{slices.Insert(slices.Clone(l), j, c)}
				if i != j {
					moved := slices.Insert(slices.Clone(left), j, c)
					swapped := slices.Clone(l)
					swapped[i], swapped[j] = swapped[j], swapped[i]
					bad = append(bad, moved, swapped)
				}
				for _, x := range bad {
					if checkRead(t, x) {
						t.Fatalf("%v is a state", x)
					}
				}
			}
			x := slices.Clone(l)
			x[i].Gone = true
			if checkRead(t, x) || checkRead(t, append(x, c)) {
				t.Fatalf("a row that is Gone is one of a state")
			}
			x[i].Value = ""
			if checkRead(t, x) {
				t.Fatalf("a row that is Gone is one of a state")
			}
		}
		slices.Reverse(l)
		if checkRead(t, l) {
			t.Fatalf("rows that fall are a state")
		}
	}
}

// row puts a row in its place, or in the place of the one of this key.
func row(l []api.Change, key, value string) []api.Change {
	l = slices.DeleteFunc(slices.Clone(l), func(c api.Change) bool { return c.Key == key })
	l = append(l, api.Change{Key: key, Value: value})
	sort.Slice(l, func(i, j int) bool { return l[i].Key < l[j].Key })
	return l
}

// P14.2: rows that have another form, each alone, beside one of the same kind that is right.
func TestReadForms(t *testing.T) {
	l, _ := Rows(rich())
	lock := "L" + four(0x101)
	good := four(7, 2, 0, 1, 0, 2, 0, 2)
	forms := []struct {
		key, value string
		is         bool
	}{
		{lock, good, true},
		{lock, four(7, 2, 0, 1, 0, 0), true},
		{lock, four(7, 1, 0, 1, 0, 8, 0, 1, 17, 1, 18, 1, 19, 1), true},
		{lock, four(7, 1, 0, 1, 0, 10, 0, 1, 17, 1, 18, 1, 19, 1, 20, 1), false},
		{lock, four(7, 1, 0, 1, 0, 9, 0, 1, 17, 1, 18, 1, 19, 1, 20), false},
		{lock, four(7, 2, 0, 1, 0, 1, 0), false},
		{lock, four(7, 2, 0, 1, 0, 3, 0, 2, 0), false},
		{lock, four(7, 1, 0, 1, 0, 3, 0, 1, 17), false},
		{lock, four(7, 2, 0, 1, 0), false},
		{lock, four(7, 2, 0, 2, 0, 0), false},
		{lock, four(7, 2, 0, 1, 2, 0), false},
		{lock, four(7, 2, 0, top, 0, 0), false},
		{lock, four(7, 2, 0, 1, 0, top), false},
		{lock, four(7, 2, 0, 1, 0, top-1, 0, 2), false},
		{lock, good + "\x00", false},
		{lock, good + four(0), false},
		{lock, "", false},
		{"B", four(0), true},
		{"B", four(top), true},
		{"B", "", false},
		{"B", four(1, 0), false},
		{"B", "\x00\x00\x00", false},
		{"B\x00", four(1), false},
		{"I", four(top), true},
		{"I", four(0x90000001), true},
		{"I", four(0x90000000), false},
		{"I", four(0), false},
		{"I", four(top) + "\x00", false},
		{"I" + four(1), four(top), false},
		{"", "", false},
		{"", four(1), false},
		{"A", four(1), false},
		{"X", "", false},
		{"Z" + four(3), four(3), false},
		{"b", four(1), false},
		{"\x00", "", false},
		{"\xff", "", false},
		{"\xc3\x89", four(1), false},
		{"N", four(1, 0, 0) + text("n"), false},
		{"N" + four(0), four(1, 0, 0) + text("n"), false},
		{"N" + four(1), four(0, 1, 0) + text(""), false},
		{"N" + four(6), four(1, 1, 0) + text("n"), true},
		{"N" + four(6), four(5, 1, 0) + text("12345678"), true},
		{"N" + four(6), four(1, 1, 0) + text("123456789"), false},
		{"N" + four(6), four(1, 1, 0) + text(""), false},
		{"N" + four(6), four(1, 2, 0) + text("n"), false},
		{"N" + four(6), four(1, 0, 0) + text("n"), false},
		{"N" + four(6), four(1, 1, 0, 1) + "n\x00\x00\x01", false},
		{"N" + four(6), four(1, 1, 0, 1) + "n", false},
		{"N" + four(6), four(1, 1, 0, 1) + "n\x00\x00\x00\x00", false},
		{"N" + four(6), four(1, 1, 0, top) + "n\x00\x00\x00", false},
		{"N" + four(6, 0), four(1, 1, 0) + text("n"), false},
		{"O" + four(19, 0), four(3, 1, 0), true},
		{"O" + four(19), four(3, 1, 0), false},
		{"O" + four(19, 0, 0), four(3, 1, 0), false},
		{"O" + four(19, 0), four(3, 1), false},
		{"O" + four(19, 0), four(3, 1, 0, 0), false},
		{"O" + four(19, 0), four(2, 1, 0), false},
		{"O" + four(21, 0), four(3, 1, 0), false},
		{"W" + four(0x101), four(19, 0, 0, 23, 0, 1) + text(""), true},
		{"W" + four(0x101), four(19, 0, 0, 24, 0, 1) + text("x"), true},
		{"W" + four(0x101), four(19, 0, 0, 23, 0, 1), false},
		{"W" + four(0x101), four(19, 0, 0, 24, 0, 65) + text(strings.Repeat("x", 65)), false},
		{"W" + four(0x101), four(19, 0, 0, 24, 0, 1, 1) + "x\x00\x01\x00", false},
		{"W" + four(0x101), four(19, 0, 0, 25, 0, 1) + text("x"), false},
		{"W" + four(2), four(19, 0, 0, 23, 0, 1) + text(""), false},
		{"W", four(19, 0, 0, 23, 0, 1) + text(""), false},
		{"S" + four(19), packet(reply(19, 108)), true},
		{"S" + four(19), packet(reply(19, 109)), false},
		{"S" + four(19), packet(reply(18, 1)), false},
		{"S" + four(19), packet(reply(19, 1)) + four(0), false},
		{"S" + four(19), "", false},
		{"S" + four(21), packet(reply(21, 1)), false},
		{"S" + four(19, 0), packet(reply(19, 1)), false},
		{"S", packet(reply(19, 1)), false},
	}
	for _, f := range forms {
		if got := checkRead(t, row(l, f.key, f.value)); got != f.is {
			t.Errorf("with %q: %q: a state: %v", f.key, f.value, got)
		}
	}
}

// P14.2: packets in seats whose bytes are those of another valid packet.
func TestReadSeats(t *testing.T) {
	l, _ := Rows(rich())
	seen := map[bool]int{}
	for at := range 3 {
		for _, s := range spoil(packet(reply(17+at, 5))) {
			seen[checkRead(t, row(l, "S"+four(uint32(17+at)), s))]++
		}
	}
	if seen[true] < 100 || seen[false] < 100 {
		t.Errorf("seen %v", seen)
	}
}

// P14.2: rows that have their form, but are those of a state that is not valid, are ErrSpoilt.
func TestReadStatesThatMayNotBe(t *testing.T) {
	seen := 0
	for _, b := range breaks() {
		s := changed(rich(), b.change)
		if len(b.why) == 0 || len(s.Tree) == 0 {
			continue
		}
		l := laid(s)
		x, formed := took(l)
		// Numbers that wrap round and lists out of order have rows that another state has.
		own := told(x) == told(s)
		if checkRead(t, l) && own {
			t.Errorf("%s: read", b.name)
		}
		if formed && own {
			seen++
		}
	}
	if seen < 80 {
		t.Errorf("only %d states", seen)
	}
}

// P14.2: Read ends for many rows, and for rows of many bytes.
func TestReadLong(t *testing.T) {
	var l []api.Change
	for i := range uint32(1 << 17) {
		l = append(l, api.Change{Key: "L" + four(i), Value: four(1, 0, 0, 0, 1, 0)})
	}
	if s, err := Read(l); err != api.ErrSpoilt || told(s) != told(api.State{}) {
		t.Errorf("Read of many rows = %d", err)
	}
	for _, key := range []string{"B", "I", "L", "N", "O", "S", "W", "X"} {
		many := strings.Repeat(key, 1<<20)
		for _, c := range []api.Change{{Key: many}, {Key: key, Value: many}, {Key: key + four(17), Value: four(1<<20) + many}} {
			if _, err := Read([]api.Change{c}); err != api.ErrSpoilt {
				t.Errorf("Read of a long row = %d", err)
			}
		}
	}
}

// P14.2, P14.4: random lists of rows, of several states mixed, are read as the chapter says.
func TestReadRandom(t *testing.T) {
	r := rand.New(rand.NewSource(3))
	seen := map[bool]int{}
	for range 3000 {
		l, _ := Rows(random(r))
		other, _ := Rows(random(r))
		for range r.Intn(3) {
			c := other[r.Intn(len(other))]
			if r.Intn(2) == 0 {
				c = l[r.Intn(len(l))]
				c.Key = c.Key[:1] + other[r.Intn(len(other))].Key[1:]
			}
			l = row(l, c.Key, c.Value)
		}
		if r.Intn(4) == 0 {
			i := r.Intn(len(l))
			l = slices.Delete(l, i, i+1)
		}
		seen[checkRead(t, l)]++
	}
	if seen[true] < 500 || seen[false] < 500 {
		t.Errorf("seen %v", seen)
	}
}

// differ are the changes from rows to others, told by hand.
func differ(was, now []api.Change) []api.Change {
	before, after := map[string]string{}, map[string]string{}
	var keys []string
	for _, c := range was {
		before[c.Key] = c.Value
		keys = append(keys, c.Key)
	}
	for _, c := range now {
		after[c.Key] = c.Value
		keys = append(keys, c.Key)
	}
	sort.Strings(keys)
	var l []api.Change
	for _, key := range slices.Compact(keys) {
		b, was := before[key]
		a, is := after[key]
		switch {
		case was && !is:
			l = append(l, api.Change{Key: key, Gone: true})
		case a != b || !was:
			l = append(l, api.Change{Key: key, Value: a})
		}
	}
	return l
}

// apply are rows behind changes.
func apply(l, changes []api.Change) []api.Change {
	now := map[string]string{}
	for _, c := range l {
		now[c.Key] = c.Value
	}
	for _, c := range changes {
		if c.Gone {
			delete(now, c.Key)
		} else {
			now[c.Key] = c.Value
		}
	}
	var rows []api.Change
	for key, value := range now {
		rows = append(rows, api.Change{Key: key, Value: value})
	}
	sort.Slice(rows, func(i, j int) bool { return rows[i].Key < rows[j].Key })
	return rows
}

// keys are changes' keys.
func keys(l []api.Change) []string {
	var k []string
	for _, c := range l {
		k = append(k, c.Key)
	}
	return k
}

// checkChanges holds the changes between two states against those that are told by hand, in both directions.
func checkChanges(t *testing.T, a, b api.State) {
	t.Helper()
	kept := told(a) + told(b)
	there, err := Changes(a, b)
	if want := differ(laid(a), laid(b)); err != api.OK || !slices.Equal(there, want) {
		t.Fatalf("Changes(%v, %v) = %v, %d, not %v", a, b, there, err, want)
	}
	back, err := Changes(b, a)
	if err != api.OK || !slices.Equal(keys(there), keys(back)) {
		t.Fatalf("the keys of changes are %v, and %v back", keys(there), keys(back))
	}
	if !sort.StringsAreSorted(keys(there)) || len(slices.Compact(keys(there))) != len(there) {
		t.Fatalf("the keys %v don't rise", keys(there))
	}
	if got := apply(laid(a), there); !slices.Equal(got, laid(b)) {
		t.Fatalf("behind the changes the rows are %v, not %v", got, laid(b))
	}
	if (len(there) == 0) != (told(a) == told(b)) {
		t.Fatalf("%d changes between %v and %v", len(there), a, b)
	}
	if told(a)+told(b) != kept {
		t.Fatalf("Changes changed %s", kept)
	}
}

// P14.3, P14.5, P14.6: Changes turn the rows of one state into those of the other one; the keys are the same in both directions; there are none between equal states.
func TestChanges(t *testing.T) {
	all := states()[:60]
	for _, a := range all {
		for _, b := range all {
			checkChanges(t, a, b)
		}
	}
}

// P14.3, P14.5, P14.6: changes between random states, and such as differ in one part.
func TestChangesRandom(t *testing.T) {
	r := rand.New(rand.NewSource(4))
	for range 1000 {
		a, b := random(r), random(r)
		checkChanges(t, a, b)
		checkChanges(t, a, Fresh())
		checkChanges(t, a, copied(a))
	}
	seen := map[int]int{}
	for _, change := range differences() {
		if s := changed(rich(), change); len(reasons(s)) == 0 {
			checkChanges(t, rich(), s)
			l, _ := Changes(rich(), s)
			seen[len(l)]++
		}
	}
	if seen[1] < 30 {
		t.Errorf("seen %v", seen)
	}
}

// P14.3: Changes answers ErrArg if one of the two states is not valid, or both.
func TestChangesOfNone(t *testing.T) {
	check := func(name string, was, now api.State) {
		if l, err := Changes(was, now); len(l) > 0 || err != api.ErrArg {
			t.Errorf("%s: Changes = %v, %d", name, l, err)
		}
	}
	for _, b := range breaks() {
		if len(b.why) == 0 {
			continue
		}
		s := changed(rich(), b.change)
		check(b.name, s, rich())
		check(b.name, rich(), s)
		check(b.name, s, s)
		check(b.name, s, Fresh())
		check(b.name, api.State{}, s)
	}
}

// overwrite writes over all memory that a state has, its spare capacity too.
func overwrite(s api.State) {
	for i := range s.Locks {
		h := s.Locks[i].Holders
		h = h[:cap(h)]
		for j := range h {
			h[j] = api.Holder{Client: 99, Mode: 99}
		}
	}
	fill(s.Tree, api.Inode{Id: 99})
	fill(s.Opens, api.Open{Client: 99})
	fill(s.Locks, api.Lock{File: 99})
	fill(s.Works, api.Work{File: 99})
	fill(s.Seats, api.Heard{Client: 99})
}

// fill writes over a list and its spare capacity.
func fill[T any](l []T, x T) {
	l = l[:cap(l)]
	for i := range l {
		l[i] = x
	}
}

// roomy is a state's copy, whose lists have spare capacity.
func roomy(s api.State) api.State {
	s = copied(s)
	s.Tree, s.Opens, s.Locks = slices.Grow(s.Tree, 9), slices.Grow(s.Opens, 9), slices.Grow(s.Locks, 9)
	s.Works, s.Seats = slices.Grow(s.Works, 9), slices.Grow(s.Seats, 9)
	for i := range s.Locks {
		s.Locks[i].Holders = slices.Grow(s.Locks[i].Holders, 9)
	}
	return s
}

// P14.1, P14.2, P14.3: answers are new memory: what is done to one is not seen in what was handed in, in another answer, or in another list of the same one.
func TestMemory(t *testing.T) {
	a, b := roomy(rich()), roomy(small())
	rows, _ := Rows(a)
	changes, _ := Changes(a, b)
	l := slices.Grow(laid(rich()), 9)
	read, _ := Read(l)
	again, _ := Read(l)
	fresh := Fresh()
	overwrite(a)
	overwrite(b)
	if !slices.Equal(rows, laid(rich())) || !slices.Equal(changes, differ(laid(rich()), laid(small()))) {
		t.Errorf("rows changed with the state")
	}
	fill(l, api.Change{Key: "X"})
	if told(read) != told(rich()) {
		t.Errorf("the state changed with the rows")
	}
	overwrite(read)
	overwrite(fresh)
	if told(again) != told(rich()) || told(Fresh()) != told(api.State{Next: 2, Tree: root()}) {
		t.Errorf("one answer changed with another one")
	}
	none, _ := Read(nil)
	overwrite(none)
	if none, _ := Read(nil); told(none) != told(Fresh()) {
		t.Errorf("one answer changed with another one")
	}
	a, b = roomy(rich()), roomy(small())
	rows, _ = Rows(a)
	fill(rows, api.Change{Key: "X"})
	changes, _ = Changes(a, b)
	fill(changes, api.Change{Key: "X"})
	if told(a) != told(rich()) || told(b) != told(small()) {
		t.Errorf("a state changed with rows")
	}
}

// P14.1, P14.3: nothing is written to spare capacity that is handed in.
func TestSpareCapacity(t *testing.T) {
	s := roomy(rich())
	full := s
	full.Tree, full.Opens, full.Locks = s.Tree[:cap(s.Tree)], s.Opens[:cap(s.Opens)], s.Locks[:cap(s.Locks)]
	full.Works, full.Seats = s.Works[:cap(s.Works)], s.Seats[:cap(s.Seats)]
	spare := s.Locks[1].Holders[:cap(s.Locks[1].Holders)]
	before, held := told(full), slices.Clone(spare)
	Right(s)
	Rows(s)
	Changes(s, small())
	Changes(small(), s)
	Same(s, rich())
	if told(full) != before || !slices.Equal(spare, held) {
		t.Errorf("spare capacity was written to")
	}
	l := slices.Grow(laid(rich()), 9)
	Read(l)
	for _, c := range l[len(l):cap(l)] {
		if c != (api.Change{}) {
			t.Errorf("spare capacity was written to")
		}
	}
}

// P14.2: each list of a state that was read is memory of its own: holders of one lock don't lie in those of another one.
func TestListsApart(t *testing.T) {
	s, _ := Read(laid(rich()))
	for i := range s.Locks {
		h := s.Locks[i].Holders
		fill(h[len(h):], api.Holder{Client: 99, Mode: 99})
		_ = append(h, api.Holder{Client: 98})
	}
	if told(s) != told(rich()) {
		t.Errorf("lists share memory")
	}
}
