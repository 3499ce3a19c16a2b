package rows

import (
	"math"
	"math/rand"
	"slices"
	"sort"
	"strings"
	"testing"

	"lamella/api"
	"lamella/device"
	"lamella/wal"
)

// all keeps every unsettled write.
const all = math.MaxUint64

// keeps are what crashes keep: nothing, all, the first or the last of few, every second one, and mixtures.
var keeps = []uint64{0, 1, 2, 3, 4, 5, 6, 1 << 39, 0x5555555555555555, 0xaaaaaaaaaaaaaaaa, 0x123456789abcdef, all - 1, all}

// number is a number's four bytes.
func number(n int) string {
	return string([]byte{byte(n >> 24), byte(n >> 16), byte(n >> 8), byte(n)})
}

// text is a text's length, bytes and padding.
func text(s string) string { return number(len(s)) + s + "\x00\x00\x00"[:(4-len(s)%4)%4] }

// padded is bytes with noughts behind them, size in all.
func padded(s string, size int) string { return s + strings.Repeat("\x00", size-len(s)) }

// data are a row's, told by hand.
func data(key, value string) string {
	return padded(number(1)+text(key)+text(value), api.DataSize)
}

// mixed is n bytes that all differ from their neighbours.
func mixed(from, n int) string {
	b := make([]byte, n)
	for i := range b {
		b[i] = byte(from + i)
	}
	return string(b)
}

// set is a change to a value.
func set(key, value string) api.Change { return api.Change{Key: key, Value: value} }

// gone is a change that removes a row.
func gone(key string) api.Change { return api.Change{Key: key, Gone: true} }

// is fails unless an error is the one that is wanted.
func is(t *testing.T, what string, err, want api.Errno) {
	t.Helper()
	if err != want {
		t.Errorf("%s = %d, want %d", what, err, want)
	}
}

// open are the rows of a device that can be opened.
func open(t *testing.T, d *device.Device) *Rows {
	t.Helper()
	r, err := Open(d)
	if r == nil || err != api.OK {
		t.Fatalf("Open = %v, %d, want rows", r, err)
	}
	return r
}

// cannotOpen fails unless Open answers an error and no rows.
func cannotOpen(t *testing.T, what string, d *device.Device, want api.Errno) {
	t.Helper()
	r, err := Open(d)
	if r != nil || err != want {
		t.Errorf("%s: Open = %v, %d, want nil, %d", what, r, err, want)
	}
}

// fresh is a new device with so many home blocks, and its rows.
func fresh(t *testing.T, homes int) (*device.Device, *Rows) {
	t.Helper()
	d := device.New(api.HomeFirst + homes)
	return d, open(t, d)
}

// lay writes a home block's data, with a head that says nothing of it.
func lay(t *testing.T, d *device.Device, at int, data string) {
	t.Helper()
	is(t, "Write", d.Write(api.HomeFirst+at, padded("\xfe\xdc\xba\x98\x76\x54\x32\x10"+data, api.BlockSize)), api.OK)
	is(t, "Barrier", d.Barrier(), api.OK)
}

// commit fails unless a commit is done.
func commit(t *testing.T, r *Rows, l ...api.Change) {
	t.Helper()
	is(t, "Commit", r.Commit(l), api.OK)
}

// sorted are rows in the order in which they are told.
func sorted(l []api.Change) []api.Change {
	l = slices.Clone(l)
	sort.Slice(l, func(i, j int) bool { return l[i].Key < l[j].Key })
	return l
}

// has fails unless these are all rows, in whichever order they are given here, and each can be had by its key.
func has(t *testing.T, r *Rows, want ...api.Change) {
	t.Helper()
	if got := r.All(); !slices.Equal(got, sorted(want)) {
		t.Errorf("All = %v, want %v", got, sorted(want))
	}
	for _, c := range want {
		if v, ok := r.Get(c.Key); v != c.Value || !ok {
			t.Errorf("Get(%q) = %q, %v, want %q", c.Key, v, ok, c.Value)
		}
	}
}

// hasNot fails if there is a row of this key.
func hasNot(t *testing.T, r *Rows, keys ...string) {
	t.Helper()
	for _, k := range keys {
		if v, ok := r.Get(k); v != "" || ok {
			t.Errorf("Get(%q) = %q, %v, want none", k, v, ok)
		}
	}
}

// free fails unless there is room for n more rows.
func free(t *testing.T, r *Rows, n int) {
	t.Helper()
	if r.Free() != n {
		t.Errorf("Free = %d, want %d", r.Free(), n)
	}
}

// settled are all blocks of a device without what is unsettled.
func settled(d *device.Device) []string {
	var l []string
	for at := range d.Blocks() {
		l = append(l, d.Settled(at))
	}
	return l
}

// lies fails unless the home blocks have these data, settled.
func lies(t *testing.T, d *device.Device, want ...string) {
	t.Helper()
	if d.Unsettled() != 0 || d.Blocks() != api.HomeFirst+len(want) {
		t.Errorf("%d writes of %d blocks are unsettled", d.Unsettled(), d.Blocks())
		return
	}
	for at, s := range want {
		b := d.Settled(api.HomeFirst + at)
		if b[api.BlockSize-api.DataSize:] != padded(s, api.DataSize) {
			t.Errorf("block %d has %.40q, want %.40q", at, b[api.BlockSize-api.DataSize:], s)
		}
	}
}

// noWrite does something with a device that dies at the first write or barrier, and fails if it dies or changes.
func noWrite(t *testing.T, what string, d *device.Device, do func()) {
	t.Helper()
	before := settled(d)
	d.Fuse(0)
	do()
	if d.Dead() || d.Unsettled() != 0 || !slices.Equal(settled(d), before) {
		t.Errorf("%s: the device was written to", what)
	}
	d.Fuse(-1)
}

// some are n new rows' changes, with keys and values of all lengths.
func some(n, from int) []api.Change {
	var l []api.Change
	for i := range n {
		key := string(rune('a'+i%26)) + string(rune('A'+i/26)) + strings.Repeat("k", i%(api.MaxKey-1))
		l = append(l, set(key, mixed(from+i, (i*37+from)%(api.MaxValue+1))))
	}
	return l
}

// P5.1: layer 4's errors: a device that isn't there, or that has no home block, is ErrArg; one of one home block is opened.
func TestOpenTooSmall(t *testing.T) {
	cannotOpen(t, "nil", nil, api.ErrArg)
	for _, blocks := range []int{-1, 1, 40, api.HomeFirst} {
		d := device.New(blocks)
		cannotOpen(t, "too small", d, api.ErrArg)
		d.Fuse(0)
		d.Barrier()
		cannotOpen(t, "too small and dead", d, api.ErrArg)
	}
}

// P5.1, P5.2: a new device has no rows, and room for one in each home block; it is not written to.
func TestOpenNew(t *testing.T) {
	for _, homes := range []int{1, 2, 3, 40, 41, api.MaxBlocks - api.HomeFirst} {
		d := device.New(api.HomeFirst + homes)
		noWrite(t, "Open", d, func() {
			r := open(t, d)
			has(t, r)
			free(t, r, homes)
			hasNot(t, r, "", "a", "\x00", strings.Repeat("a", api.MaxKey+1))
			if l := r.Under(""); len(l) != 0 {
				t.Errorf("Under = %v, want none", l)
			}
		})
	}
}

// P5.1: a dead device is ErrDead, with rows and without; it stays as it is.
func TestOpenDead(t *testing.T) {
	d, r := fresh(t, 2)
	for range 2 {
		d.Fuse(0)
		d.Barrier()
		cannotOpen(t, "dead", d, api.ErrDead)
		d.Crash(0)
		r = open(t, d)
		commit(t, r, set("a", "x"))
	}
}

// P5.1: blocks that another hand laid are the rows that they have, whatever the heads of the blocks are, and those that are zero are free.
func TestOpenRows(t *testing.T) {
	d := device.New(api.HomeFirst + 12)
	rows := []api.Change{
		set("b", ""), set("\x00", "\x00"), set("\xff\xfe", "v"), set("a", "abc"), set("ab", "abcd"), set("abc", "abcde"),
		set(mixed(240, api.MaxKey), mixed(0, api.MaxValue)), set(strings.Repeat("\x00", api.MaxKey), strings.Repeat("\x00", api.MaxValue)), set(mixed(1, api.MaxKey-1), mixed(77, api.MaxValue-1)),
	}
	for i, c := range rows {
		lay(t, d, 2+i, data(c.Key, c.Value))
	}
	lay(t, d, 0, "")
	noWrite(t, "Open", d, func() {
		r := open(t, d)
		has(t, r, rows...)
		free(t, r, 3)
		hasNot(t, r, "", "c", "\x00\x00", "a\x00", "ab\x00", "abcd", "A")
	})
}

// P5.1: the first and the last home block count, however many there are.
func TestOpenLast(t *testing.T) {
	for _, homes := range []int{1, 2, 42, api.MaxBlocks - api.HomeFirst} {
		d := device.New(api.HomeFirst + homes)
		lay(t, d, homes-1, data("last", "z"))
		r := open(t, d)
		has(t, r, set("last", "z"))
		free(t, r, homes-1)
		lay(t, d, 0, "x")
		cannotOpen(t, "the first one is spoilt", d, api.ErrSpoilt)
		lay(t, d, 0, "")
		lay(t, d, homes-1, "x")
		cannotOpen(t, "the last one is spoilt", d, api.ErrSpoilt)
	}
}

// P5.1: data that are neither free nor a row's are ErrSpoilt, wherever they lie among rows.
func TestOpenSpoilt(t *testing.T) {
	row := number(1) + text("abcde") + text("vwxyz")
	long := number(1) + text(mixed(1, api.MaxKey)) + text(mixed(1, api.MaxValue))
	spoilt := []string{
		number(0) + row[4:], number(2) + row[4:], number(1<<8) + row[4:], number(1<<24|1) + row[4:], number(-1) + row[4:],
		number(0) + text("") + text("x"), number(0) + text("x") + text(""), number(1), number(2), number(1 << 31),
		number(1) + text("") + text("x"), number(1) + text("") + text(""), number(1) + text("") + row[4:],
		number(1) + text(mixed(1, api.MaxKey+1)) + text("x"), number(1) + text(mixed(1, 100)) + text("x"),
		number(1) + number(-1) + row[8:], number(1) + number(1<<31) + row[8:], number(1) + number(1<<16|5) + row[8:],
		number(1) + text("a") + text(mixed(1, api.MaxValue+1)), number(1) + text("a") + text(mixed(1, 232)), number(1) + text("a") + number(-1) + "abcd",
		number(1) + text("a") + number(1<<24|1) + "v", number(1) + text("a") + number(236) + "v", number(1) + text("a") + number(api.MaxValue+1),
		number(1) + number(5) + "abcde\x01\x00\x00" + text("v"), number(1) + number(5) + "abcde\x00\x00\x01" + text("v"), number(1) + number(5) + "abcde\x00\x00\xff" + text("v"),
		number(1) + text("k") + number(2) + "vv\x01\x00", number(1) + text("k") + number(2) + "vv\x00\x01", number(1) + text("k") + number(1) + "vvvv",
		row + "\x01", row + "\x00\x00\x00\x01", row + row, row[4:], "\x00" + row, "x", "\x00\x00\x01",
		padded(row, api.DataSize-1) + "\x01", padded(long, api.DataSize-1) + "\x80", long + "\x01",
		padded("", api.DataSize-1) + "\x01", padded("", api.DataSize-1) + "0", strings.Repeat("\xff", api.DataSize), strings.Repeat(" ", api.DataSize),
	}
	for _, s := range spoilt {
		for at := range 3 {
			d := device.New(api.HomeFirst + 3)
			for i := range 3 {
				lay(t, d, i, data(string(rune('p'+i)), "v"))
			}
			lay(t, d, at, s)
			noWrite(t, "Open", d, func() { cannotOpen(t, "spoilt", d, api.ErrSpoilt) })
			if t.Failed() {
				t.Fatalf("%.50q", s)
			}
		}
	}
}

// P5.1: each byte that is neither the key's nor the value's spoils a row.
func TestOpenSpoiltBytes(t *testing.T) {
	whole := data("abcde", mixed(1, api.MaxValue-2))
	d := device.New(api.HomeFirst + 1)
	for i := range api.DataSize {
		b := []byte(whole)
		b[i] ^= 0x90
		lay(t, d, 0, string(b))
		switch {
		case 8 <= i && i < 13 || 20 <= i && i < 20+api.MaxValue-2:
			has(t, open(t, d), set(string(b[8:13]), string(b[20:20+api.MaxValue-2])))
		case i == 19: // the value is shorter, and what it loses stands behind it
			cannotOpen(t, "a wrong length", d, api.ErrSpoilt)
		default:
			cannotOpen(t, "a wrong byte", d, api.ErrSpoilt)
		}
		if t.Failed() {
			t.Fatalf("byte %d", i)
		}
	}
}

// P5.1: two rows of one key are ErrSpoilt, with one value or with two, wherever they lie.
func TestOpenTwice(t *testing.T) {
	for _, key := range []string{"a", "\x00", mixed(3, api.MaxKey)} {
		for _, second := range []string{"", "x", "y"} {
			for i := range 5 {
				for j := range 5 {
					d := device.New(api.HomeFirst + 5)
					lay(t, d, i, data(key, "x"))
					lay(t, d, j, data(key, second))
					if i != j {
						cannotOpen(t, "twice", d, api.ErrSpoilt)
					} else {
						has(t, open(t, d), set(key, second))
					}
				}
			}
		}
	}
	d := device.New(api.HomeFirst + 3)
	for i, key := range []string{"a", "a\x00", "A"} {
		lay(t, d, i, data(key, "x"))
	}
	has(t, open(t, d), set("a", "x"), set("a\x00", "x"), set("A", "x"))
}

// P5.1: layer 4's Open is called: a commit that was left half done is done, and its rows are told; if the device dies then it is ErrDead, and no rows.
func TestOpenMends(t *testing.T) {
	changes := []api.Change{set("a", "new"), gone("b"), set("c", "c")}
	for fuse := range 4 {
		for _, keep := range keeps {
			d, r := fresh(t, 4)
			commit(t, r, set("a", "old"), set("b", "b"))
			d.Fuse(6)
			is(t, "Commit", r.Commit(changes), api.ErrDead)
			d.Crash(keep)
			d.Fuse(fuse)
			if fuse < 3 {
				cannotOpen(t, "it dies", d, api.ErrDead)
				d.Crash(keep)
			}
			has(t, open(t, d), set("a", "new"), set("c", "c"))
			lies(t, d, data("a", "new"), data("c", "c"), "", "")
		}
	}
}

// P5.2: All are all rows by the bytes of their keys, and none is Gone; Under are those that begin so.
func TestOrderOfKeys(t *testing.T) {
	keys := []string{"\x00", "\x00\x00", "A", "Z", "a", "a\x00", "a\x7f", "a\x80", "aa", "aaa", "ab", "b", "ba", "\x7f", "\x80", "\xc3\xa9", "\xff", "\xff\xff", strings.Repeat("a", api.MaxKey), strings.Repeat("\xff", api.MaxKey)}
	sort.Strings(keys)
	prefixes := append([]string{"", "\x00\x00\x00", "c", "ac", "\xc3", "\xff\xff\xff", strings.Repeat("a", api.MaxKey+1), strings.Repeat("a", api.MaxKey-1)}, keys...)
	for seed := range int64(20) {
		_, r := fresh(t, len(keys))
		var l []api.Change
		for _, i := range rand.New(rand.NewSource(seed)).Perm(len(keys)) {
			l = append(l, set(keys[i], "v"+keys[i]))
		}
		commit(t, r, l...)
		for _, p := range prefixes {
			var want []api.Change
			for _, k := range keys {
				if len(k) >= len(p) && k[:len(p)] == p {
					want = append(want, set(k, "v"+k))
				}
			}
			if got := r.Under(p); !slices.Equal(got, want) {
				t.Errorf("Under(%q) = %v, want %v", p, got, want)
			}
			if got := r.All(); p == "" && !slices.Equal(got, want) {
				t.Errorf("All = %v, want %v", got, want)
			}
		}
	}
}

// P5.2, P5.3: the chapter's example.
func TestExample(t *testing.T) {
	d := device.New(43)
	r := open(t, d)
	free(t, r, 2)
	is(t, "Commit", r.Commit([]api.Change{set("a", "x"), set("b", "y"), set("c", "z")}), api.ErrFull)
	has(t, r)
	commit(t, r, set("a", "x"), set("b", "y"))
	has(t, r, set("a", "x"), set("b", "y"))
	lies(t, d, data("a", "x"), data("b", "y"))
	commit(t, r, gone("a"), set("c", "z"))
	has(t, r, set("b", "y"), set("c", "z"))
	hasNot(t, r, "a")
	free(t, r, 0)
	lies(t, d, data("c", "z"), data("b", "y"))
	has(t, open(t, d), set("b", "y"), set("c", "z"))
}

// P5.2, P5.3: keys and values at the edges of their lengths; each row is told at once, and behind an Open.
func TestLengths(t *testing.T) {
	for _, k := range []int{1, 2, 3, 4, 5, api.MaxKey - 1, api.MaxKey} {
		for _, v := range []int{0, 1, 2, 3, 4, 5, api.MaxValue - 1, api.MaxValue} {
			d, r := fresh(t, 1)
			c := set(mixed(9, k), mixed(200, v))
			commit(t, r, c)
			has(t, r, c)
			free(t, r, 0)
			lies(t, d, data(c.Key, c.Value))
			has(t, open(t, d), c)
			c.Value = strings.Repeat("\x00", v)
			commit(t, r, c)
			has(t, open(t, d), c)
			commit(t, r, gone(c.Key))
			has(t, r)
			free(t, r, 1)
			lies(t, d, "")
			has(t, open(t, d))
		}
	}
}

// wrong are changes that are ErrArg, the first of them the right one "a" to "x" that is wrong with the rest.
func wrong() [][]api.Change {
	long := strings.Repeat("k", api.MaxKey+1)
	big := strings.Repeat("v", api.MaxValue+1)
	bad := []api.Change{
		set("", "v"), set("", ""), gone(""), set(long, "v"), gone(long), set(strings.Repeat("k", 1000), ""),
		set("k", big), set("k", strings.Repeat("v", 1000)), {Key: "k", Value: big, Gone: true}, {Key: "k", Value: "v", Gone: true}, {Key: "there", Value: "v", Gone: true}, {Key: "k", Value: "\x00", Gone: true},
		set("a", "x"), set("a", "y"), gone("a"),
	}
	var l [][]api.Change
	for _, c := range bad {
		l = append(l, []api.Change{set("a", "x"), c}, []api.Change{c, set("a", "x")}, []api.Change{set("p", ""), set("a", "x"), gone("there"), c, set("q", "")})
	}
	many := some(api.MaxChange+1, 0)
	none := slices.Clone(many)
	for i := range none {
		none[i] = gone("no" + many[i].Key[:2])
	}
	first := slices.Clone(many[:api.MaxChange])
	first[api.MaxChange-1].Key = first[0].Key
	return append(l, many, none, append(slices.Clone(many), many...), first, make([]api.Change, api.MaxChange+1), make([]api.Change, 1),
		[]api.Change{gone("no"), gone("no")}, []api.Change{set("there", "t"), set("there", "t")}, []api.Change{gone("there"), set("there", "t")})
}

// P5.3: what can't be committed is ErrArg and changes nothing, also where the rows would be too many, and where nothing would change.
func TestCommitWrong(t *testing.T) {
	for _, homes := range []int{1, 2, 100} {
		for _, l := range wrong() {
			d, r := fresh(t, homes)
			commit(t, r, set("there", "t"))
			noWrite(t, "Commit", d, func() {
				is(t, "Commit", r.Commit(l), api.ErrArg)
				has(t, r, set("there", "t"))
				free(t, r, homes-1)
			})
			if t.Failed() {
				t.Fatalf("%d home blocks, %d changes: %v", homes, len(l), l)
			}
		}
	}
}

// P5.3: more rows than home blocks are ErrFull and change nothing; so many as there are home blocks have room.
func TestCommitFull(t *testing.T) {
	for _, homes := range []int{1, 2, 3, 39, api.MaxChange - 1} {
		d, r := fresh(t, homes)
		l := some(homes+1, 4)
		refused := func(l ...api.Change) {
			t.Helper()
			noWrite(t, "Commit", d, func() { is(t, "Commit", r.Commit(l), api.ErrFull) })
		}
		refused(l...)
		has(t, r)
		free(t, r, homes)
		commit(t, r, l[:homes]...)
		has(t, r, l[:homes]...)
		free(t, r, 0)
		refused(l[homes])
		refused(l[homes], gone("none"))
		refused(set(l[0].Key, "new"), l[homes])
		refused(set("p", ""), gone(l[0].Key), set("q", ""))
		refused(l[homes], set(l[0].Key, l[0].Value))
		has(t, r, l[:homes]...)
		commit(t, r, l[homes], gone(l[0].Key))
		has(t, r, l[1:]...)
		free(t, r, 0)
		has(t, open(t, d), l[1:]...)
	}
}

// P5.3: MaxChange changes are done together; all that they change can be removed together, too.
func TestCommitMany(t *testing.T) {
	for _, homes := range []int{api.MaxChange, api.MaxChange + 1, 90} {
		d, r := fresh(t, homes)
		l := some(api.MaxChange, 4)
		commit(t, r, l...)
		has(t, r, l...)
		free(t, r, homes-api.MaxChange)
		has(t, open(t, d), l...)
		other := some(api.MaxChange, 99)
		commit(t, r, other...)
		has(t, r, other...)
		var none, next []api.Change
		for i, c := range other {
			none = append(none, gone(c.Key))
			next = append(next, set("n"+string(rune('0'+i)), ""))
		}
		half := append(slices.Clone(none[:20]), next[:20]...)
		commit(t, r, half...)
		has(t, r, append(slices.Clone(other[20:]), next[:20]...)...)
		commit(t, r, append(slices.Clone(next[20:]), none[20:]...)...)
		has(t, r, next...)
		for i := range next {
			next[i] = gone(next[i].Key)
		}
		commit(t, r, next...)
		has(t, r)
		free(t, r, homes)
		has(t, open(t, d))
	}
}

// P5.3: if nothing changes nothing is written: no change, a row that is Gone and isn't there, a row that has its value; so it is OK however often.
func TestCommitNothing(t *testing.T) {
	big := mixed(0, api.MaxValue)
	d, r := fresh(t, 3)
	rows := []api.Change{set("a", "x"), set("b", ""), set("c", big)}
	commit(t, r, rows...)
	for _, l := range [][]api.Change{nil, {}, {gone("d")}, {set("a", "x")}, {set("b", "")}, {set("c", big)}, {gone("A"), set("b", ""), gone("a\x00"), set("a", "x"), gone(strings.Repeat("a", api.MaxKey))}} {
		noWrite(t, "Commit", d, func() {
			commit(t, r, l...)
			has(t, r, rows...)
			free(t, r, 0)
		})
	}
	d, r = fresh(t, 1)
	noWrite(t, "Commit", d, func() { commit(t, r); commit(t, r, gone("a")) })
}

// P5.3: only blocks that change are written: a commit of n of them takes 2n + 4 steps of a fuse.
func TestCommitSteps(t *testing.T) {
	rows := []api.Change{set("a", "x"), set("b", "y"), set("c", "z"), set("d", "")}
	for _, c := range []struct {
		blocks  int
		changes []api.Change
	}{
		{1, []api.Change{set("a", "y")}},
		{1, []api.Change{set("a", "y"), set("b", "y"), gone("e")}},
		{1, []api.Change{gone("d"), gone("e"), set("c", "z")}},
		{1, []api.Change{gone("a"), set("e", "")}},
		{1, []api.Change{set("e", ""), gone("d")}},
		{1, []api.Change{set("e", "")}},
		{2, []api.Change{set("e", ""), gone("b"), set("f", "")}},
		{2, []api.Change{set("e", ""), gone("b"), gone("c")}},
		{2, []api.Change{set("e", ""), set("b", "")}},
		{3, []api.Change{set("a", ""), set("b", ""), set("c", ""), set("d", "")}},
		{4, []api.Change{set("a", "1"), set("b", "2"), set("c", "3"), set("d", "4")}},
	} {
		for fuse, want := range map[int]api.Errno{2*c.blocks + 3: api.ErrDead, 2*c.blocks + 4: api.OK} {
			d, r := fresh(t, 6)
			commit(t, r, rows...)
			d.Fuse(fuse)
			is(t, "Commit", r.Commit(c.changes), want)
			if d.Dead() == (want == api.OK) {
				t.Errorf("%v: dead %v with a fuse of %d", c.changes, d.Dead(), fuse)
			}
			d.Write(0, strings.Repeat("x", api.BlockSize))
			if !d.Dead() {
				t.Errorf("%v: some of a fuse of %d is left", c.changes, fuse)
			}
		}
	}
}

// P5.3: rows keep their blocks; new ones take the smallest free ones, in the order in which they are given, those among them that become free; a removed row leaves noughts.
func TestCommitBlocks(t *testing.T) {
	d, r := fresh(t, 7)
	a, b, c := data("a", "1"), data("b", "2"), data("c", "3")
	commit(t, r, set("c", "3"), set("a", "1"), set("b", "2"))
	lies(t, d, c, a, b, "", "", "", "")
	commit(t, r, set("a", "long"), set("d", "4"))
	lies(t, d, c, data("a", "long"), b, data("d", "4"), "", "", "")
	commit(t, r, gone("a"))
	lies(t, d, c, "", b, data("d", "4"), "", "", "")
	commit(t, r, set("f", "6"), gone("c"), set("e", "5"), set("b", "2"), set("d", "44"))
	lies(t, d, data("f", "6"), data("e", "5"), b, data("d", "44"), "", "", "")
	commit(t, r, gone("b"), set("z", ""), gone("f"), set("y", ""), set("x", ""))
	lies(t, d, data("z", ""), data("e", "5"), data("y", ""), data("d", "44"), data("x", ""), "", "")
	commit(t, r, gone("z"), gone("d"), gone("e"), set("b", "2"))
	lies(t, d, b, "", data("y", ""), "", data("x", ""), "", "")
	r = open(t, d)
	commit(t, r, set("p", ""), set("o", ""), gone("x"), set("m", ""))
	lies(t, d, b, data("p", ""), data("y", ""), data("o", ""), data("m", ""), "", "")
	commit(t, r, gone("m"), gone("o"), gone("p"), gone("y"), gone("b"))
	lies(t, d, "", "", "", "", "", "", "")
	commit(t, r, set("a", "1"))
	lies(t, d, a, "", "", "", "", "", "")
}

// P5.3: a row that is removed and laid anew by another commit is a new one: it takes the smallest free block.
func TestCommitAnew(t *testing.T) {
	d, r := fresh(t, 3)
	commit(t, r, set("a", "1"), set("b", "2"), set("c", "3"))
	commit(t, r, gone("a"))
	commit(t, r, gone("c"))
	commit(t, r, set("c", "4"))
	lies(t, d, data("c", "4"), data("b", "2"), "")
	has(t, r, set("b", "2"), set("c", "4"))
}

// dead fails unless rows are told as they were, and all that would write is this error; what wouldn't is as ever.
func dead(t *testing.T, r *Rows, homes int, want api.Errno, rows ...api.Change) {
	t.Helper()
	for range 2 {
		has(t, r, rows...)
		free(t, r, homes-len(rows))
		commit(t, r)
		commit(t, r, gone("none"))
		is(t, "Commit of nothing at all", r.Commit([]api.Change{set("", "")}), api.ErrArg)
		is(t, "Commit of too many", r.Commit(some(homes+1, 1)), api.ErrFull)
		for _, c := range rows {
			commit(t, r, c)
			is(t, "Commit of a value", r.Commit([]api.Change{set(c.Key, c.Value+"x")}), want)
			is(t, "Commit of none", r.Commit([]api.Change{gone(c.Key)}), want)
		}
		if len(rows) < homes {
			is(t, "Commit of a new one", r.Commit([]api.Change{set("new", "x")}), want)
		}
	}
	has(t, r, rows...)
	hasNot(t, r, "new", "none")
}

// alike fails unless two devices are in all respects the same.
func alike(t *testing.T, d, twin *device.Device) {
	t.Helper()
	if d.Dead() != twin.Dead() || d.Unsettled() != twin.Unsettled() {
		t.Errorf("dead %v, unsettled %d, want %v, %d", d.Dead(), d.Unsettled(), twin.Dead(), twin.Unsettled())
	}
	for at := range d.Blocks() {
		a, e := d.Read(at)
		b, f := twin.Read(at)
		if a != b || e != f || d.Settled(at) != twin.Settled(at) {
			t.Errorf("block %d is %.40q, %d, want %.40q, %d", at, a, e, b, f)
		}
	}
}

// P5.3, P5.4: the device dies at each step of a commit: it is ErrDead, the rows are told as they were and stay so, the device is as layer 4 leaves it with the blocks in increasing order, and what is opened behind the crash are the rows before or those after.
func TestCommitDies(t *testing.T) {
	before := []api.Change{set("a", "1"), set("b", "2"), set("c", "3"), set("d", "4")}
	changes := []api.Change{set("z", "9"), gone("c"), set("d", "44"), gone("a"), set("y", "8"), gone("b"), set("a\x00", "7")}
	now := []api.Change{set("z", "9"), set("d", "44"), set("y", "8"), set("a\x00", "7")}
	written := []api.Block{{At: 0, Data: data("z", "9")}, {At: 1, Data: data("y", "8")}, {At: 2, Data: data("a\x00", "7")}, {At: 3, Data: data("d", "44")}}
	const homes, count = 5, 2*4 + 4
	for fuse := range count + 2 {
		for _, keep := range keeps {
			d, r := fresh(t, homes)
			commit(t, r, before...)
			twin := device.New(d.Blocks())
			log, _ := wal.Open(twin)
			is(t, "wal", log.Commit([]api.Block{{At: 0, Data: data("a", "1")}, {At: 1, Data: data("b", "2")}, {At: 2, Data: data("c", "3")}, {At: 3, Data: data("d", "4")}}), api.OK)
			alike(t, d, twin)
			d.Fuse(fuse)
			twin.Fuse(fuse)
			err := r.Commit(changes)
			is(t, "Commit", err, log.Commit(written))
			alike(t, d, twin)
			if died := fuse < count; died != (err == api.ErrDead) {
				t.Errorf("fuse %d: Commit = %d", fuse, err)
			}
			if err == api.ErrDead {
				dead(t, r, homes, api.ErrDead, before...)
			} else {
				has(t, r, now...)
			}
			d.Crash(keep)
			twin.Crash(keep)
			alike(t, d, twin)
			if err == api.ErrDead {
				dead(t, r, homes, api.ErrDead, before...)
				alike(t, d, twin)
			}
			m := open(t, d)
			if done := fuse >= 7 || fuse == 6 && keep&1 == 1; done {
				has(t, m, now...)
				free(t, m, 1)
			} else {
				has(t, m, before...)
				free(t, m, 1)
			}
			if t.Failed() {
				t.Fatalf("fuse %d, keep %x", fuse, keep)
			}
		}
	}
}

// P5.3: a commit to a device that is dead already is ErrDead, if it would write.
func TestCommitDead(t *testing.T) {
	d, r := fresh(t, 2)
	commit(t, r, set("a", "x"))
	d.Fuse(0)
	d.Barrier()
	has(t, r, set("a", "x"))
	commit(t, r, set("a", "x"))
	commit(t, r, gone("b"))
	is(t, "Commit", r.Commit([]api.Change{set("a", "y")}), api.ErrDead)
	dead(t, r, 2, api.ErrDead, set("a", "x"))
	d.Crash(all)
	dead(t, r, 2, api.ErrDead, set("a", "x"))
	has(t, open(t, d), set("a", "x"))
}

// P5.3: a commit that wouldn't write doesn't let the rows die, though the device is dead.
func TestCommitNothingDead(t *testing.T) {
	d, r := fresh(t, 2)
	commit(t, r, set("a", "x"))
	d.Fuse(0)
	d.Barrier()
	commit(t, r, set("a", "x"))
	commit(t, r)
	is(t, "Commit", r.Commit([]api.Change{{}}), api.ErrArg)
	is(t, "Commit", r.Commit([]api.Change{set("b", ""), set("c", "")}), api.ErrFull)
	d.Crash(0)
	commit(t, r, set("b", "y"))
	has(t, open(t, d), set("a", "x"), set("b", "y"))
}

// P5.3: behind the last number of a log each commit that would write is ErrMany.
func TestCommitLast(t *testing.T) {
	for _, left := range []int{0, 1, 2} {
		d := device.New(api.HomeFirst + 3)
		is(t, "Write", d.Write(0, padded("LCOM"+number(-1-left), api.BlockSize)), api.OK)
		is(t, "Barrier", d.Barrier(), api.OK)
		r := open(t, d)
		var rows []api.Change
		for i := range left {
			rows = append(rows, set(string(rune('a'+i)), "v"))
			commit(t, r, rows[i])
		}
		noWrite(t, "Commit", d, func() { dead(t, r, 3, api.ErrMany, rows...) })
		r = open(t, d)
		noWrite(t, "Commit", d, func() { dead(t, r, 3, api.ErrMany, rows...) })
	}
}

// A nil Rows has no rows and no room, and each Commit is ErrDead, whatever it is given.
func TestNil(t *testing.T) {
	var r *Rows
	has(t, r)
	hasNot(t, r, "", "a")
	free(t, r, 0)
	if r.All() != nil || r.Under("") != nil || r.Under("a") != nil {
		t.Error("a nil Rows has rows")
	}
	for _, l := range append(wrong(), nil, []api.Change{set("a", "x")}, []api.Change{gone("a")}) {
		is(t, "Commit", r.Commit(l), api.ErrDead)
	}
}

// P5.4: wherever the device fails in a commit and in the Open behind it, and whatever both crashes keep, the rows are those before or those after; once they were told, they stay so.
func TestAtomic(t *testing.T) {
	few := []uint64{0, 1, 2, 5, 0x5555555555555555, all - 1, all}
	for fuse := range 2*3 + 5 {
		for _, keep := range few {
			for again := range 5 {
				for _, kept := range few {
					broken(t, fuse, keep, again, kept)
					if t.Failed() {
						t.Fatalf("fuse %d, keep %x, fuse %d, keep %x", fuse, keep, again, kept)
					}
				}
			}
		}
	}
}

// broken breaks a commit off, and the Open behind it.
func broken(t *testing.T, fuse int, keep uint64, again int, kept uint64) {
	t.Helper()
	d, r := fresh(t, 3)
	commit(t, r, set("a", "1"), set("b", "2"))
	before := r.All()
	now := []api.Change{set("a", "x"), set("c", "3"), set("d", "4")}
	d.Fuse(fuse)
	done := r.Commit([]api.Change{set("c", "3"), gone("b"), set("d", "4"), set("a", "x")}) == api.OK
	d.Crash(keep)
	d.Fuse(again)
	if m, err := Open(d); err == api.OK {
		before = m.All()
		if !slices.Equal(before, now) && !slices.Equal(before, r.All()) {
			t.Errorf("the rows are %v", before)
		}
		now = before
	}
	d.Crash(kept)
	m := open(t, d)
	if got := m.All(); !slices.Equal(got, before) && !slices.Equal(got, now) || done && !slices.Equal(got, now) {
		t.Errorf("the rows are %v", got)
	}
	commit(t, m, gone("a"), set("e", "5"))
	has(t, open(t, d), m.All()...)
}

// P5.5: rows are read as they were written, whatever their bytes, at once and behind an Open.
func TestAsWritten(t *testing.T) {
	d, r := fresh(t, 300)
	var rows []api.Change
	for b := range 256 {
		rows = append(rows, set(string([]byte{byte(b)}), mixed(b, b%(api.MaxValue+1))))
	}
	for i := 0; i < len(rows); i += 32 {
		commit(t, r, rows[i:i+32]...)
	}
	has(t, r, rows...)
	free(t, r, 300-256)
	r = open(t, d)
	has(t, r, rows...)
	for i := range rows {
		rows[i].Value = strings.Repeat(rows[i].Key, api.MaxValue)
		commit(t, r, rows[i])
	}
	has(t, r, rows...)
	has(t, open(t, d), rows...)
	free(t, r, 300-256)
}

// P5.6: in whichever order changes stand, the rows are the same.
func TestOrder(t *testing.T) {
	rnd := rand.New(rand.NewSource(1))
	old := some(30, 5)
	l := append(some(40, 60)[15:], gone("none"))
	for _, c := range old[:14] {
		l = append(l, gone(c.Key))
	}
	l = l[:api.MaxChange]
	var want []api.Change
	for range 50 {
		d, r := fresh(t, 44)
		commit(t, r, old...)
		commit(t, r, l...)
		if want == nil {
			want = r.All()
		}
		has(t, r, want...)
		has(t, open(t, d), want...)
		rnd.Shuffle(len(l), func(i, j int) { l[i], l[j] = l[j], l[i] })
	}
	if len(want) != 30-14+10 {
		t.Errorf("%d rows", len(want))
	}
}

// Common rule 4: a list is neither changed nor kept, its spare room too; answers are new memory each time.
func TestMemory(t *testing.T) {
	for _, fuse := range []int{-1, 3, 20} {
		room := []api.Change{set("z", "z"), set("y", "y"), set("p", "1"), gone("a"), set("o", "2"), set("b", "3"), set("x", "x"), gone("c")}
		was := slices.Clone(room)
		d, r := fresh(t, 10)
		old := []api.Change{set("a", "a"), set("b", "b"), set("c", "c")}
		commit(t, r, old...)
		d.Fuse(fuse)
		err := r.Commit(room[2:6])
		want := []api.Change{set("b", "3"), set("c", "c"), set("o", "2"), set("p", "1")}
		if fuse == 3 {
			is(t, "Commit", err, api.ErrDead)
			want = old
		} else {
			is(t, "Commit", err, api.OK)
		}
		if !slices.Equal(room, was) {
			t.Error("the list was changed")
		}
		for i := range room {
			room[i] = api.Change{Key: "over", Value: "over"}
		}
		has(t, r, want...)
		for _, l := range [][]api.Change{r.All(), r.Under(""), r.Under("b")} {
			l = l[:cap(l)]
			for i := range l {
				l[i] = api.Change{Key: "over", Value: "over", Gone: true}
			}
			has(t, r, want...)
		}
		told := r.All()
		commit(t, r)
		if fuse != 3 {
			commit(t, r, set("b", "new"), gone("c"))
		}
		if !slices.Equal(told, want) {
			t.Error("what was told has changed")
		}
	}
}

// Nothing that is done to the rows of one device is seen in those of another one.
func TestApart(t *testing.T) {
	d, r := fresh(t, 2)
	e, s := fresh(t, 3)
	commit(t, r, set("a", "x"))
	has(t, s)
	free(t, s, 3)
	d.Fuse(0)
	is(t, "Commit", r.Commit([]api.Change{set("a", "y")}), api.ErrDead)
	commit(t, s, set("c", "z"))
	has(t, r, set("a", "x"))
	has(t, open(t, e), set("c", "z"))
}

// telling is what rows are to be, told another way: a home block each, of which those without a key are free, and a log that is given the blocks by hand.
type telling struct {
	twin  *device.Device
	log   *wal.Log
	homes []api.Change
	// next are the rows behind the last commit, if it was done.
	next []api.Change
	dead bool
}

// at is the block of a row, or -1.
func (s *telling) at(key string) int {
	return slices.IndexFunc(s.homes, func(c api.Change) bool { return c.Key == key })
}

// rows are those that there are.
func (s *telling) rows() []api.Change { return rowsOf(s.homes) }

// rowsOf are the rows that home blocks have.
func rowsOf(homes []api.Change) []api.Change {
	var l []api.Change
	for _, c := range homes {
		if c.Key != "" {
			l = append(l, c)
		}
	}
	return sorted(l)
}

// commit is what a commit is to answer and to do.
func (s *telling) commit(l []api.Change) api.Errno {
	next := slices.Clone(s.homes)
	for _, c := range l {
		if at := s.at(c.Key); at >= 0 {
			next[at] = c
			if c.Gone {
				next[at] = api.Change{}
			}
		}
	}
	for _, c := range l {
		if s.at(c.Key) >= 0 || c.Gone {
			continue
		}
		at := slices.Index(next, api.Change{})
		if at < 0 {
			return api.ErrFull
		}
		next[at] = c
	}
	s.next = rowsOf(next)
	var b []api.Block
	for at, c := range next {
		if c == s.homes[at] {
			continue
		}
		b = append(b, api.Block{At: at})
		if c.Key != "" {
			b[len(b)-1].Data = data(c.Key, c.Value)
		}
	}
	if len(b) == 0 {
		return api.OK
	}
	if err := s.log.Commit(b); err != api.OK {
		s.dead = true
		return err
	}
	s.homes = next
	return api.OK
}

// reopen takes up what the twin has behind a crash.
func (s *telling) reopen(t *testing.T) {
	t.Helper()
	var err api.Errno
	s.log, err = wal.Open(s.twin)
	is(t, "wal", err, api.OK)
	s.dead = false
	for at := range s.homes {
		b, _ := s.log.Read(at)
		s.homes[at] = api.Change{}
		if b[3] == 1 {
			k := int(b[7])
			v := 8 + (k+3)/4*4
			s.homes[at] = set(b[8:8+k], b[v+4:v+4+int(b[v+3])])
		}
	}
}

// anyChanges are changes that can be committed, of few keys, so that many of them meet a row.
func anyChanges(r *rand.Rand, keys int) []api.Change {
	var l []api.Change
	for _, k := range r.Perm(keys)[:r.Intn(min(keys, api.MaxChange)+1)] {
		c := set(mixed(7*k, 1+k%api.MaxKey)+string(rune('A'+k)), "")
		c.Key = c.Key[max(0, len(c.Key)-api.MaxKey):]
		switch r.Intn(3) {
		case 0:
			c.Gone = true
		case 1:
			c.Value = mixed(k, k)
		case 2:
			c.Value = mixed(r.Intn(255), r.Intn(api.MaxValue+1))
		}
		l = append(l, c)
	}
	return l
}

// P5.1 to P5.5: over many commits, deaths, crashes and openings, the rows, the device and the answers are those of the other telling.
func TestLongRun(t *testing.T) {
	for seed := range int64(150) {
		rnd := rand.New(rand.NewSource(seed))
		homes := 1 + rnd.Intn(30)
		d, r := fresh(t, homes)
		s := &telling{twin: device.New(d.Blocks()), homes: make([]api.Change, homes)}
		s.log, _ = wal.Open(s.twin)
		for range 60 {
			l := anyChanges(rnd, 1+rnd.Intn(44))
			if fuse := rnd.Intn(80); fuse < 15 {
				d.Fuse(fuse)
				s.twin.Fuse(fuse)
			}
			before := s.rows()
			is(t, "Commit", r.Commit(l), s.commit(l))
			has(t, r, s.rows()...)
			free(t, r, homes-len(s.rows()))
			alike(t, d, s.twin)
			if s.dead {
				keep := rnd.Uint64()
				d.Crash(keep)
				s.twin.Crash(keep)
				r = open(t, d)
				s.reopen(t)
				has(t, r, s.rows()...)
				if got := r.All(); !slices.Equal(got, before) && !slices.Equal(got, s.next) {
					t.Error("the rows are neither those before nor those after")
				}
			} else {
				d.Fuse(-1)
				s.twin.Fuse(-1)
			}
			alike(t, d, s.twin)
			if t.Failed() {
				t.Fatalf("seed %d", seed)
			}
		}
	}
}
