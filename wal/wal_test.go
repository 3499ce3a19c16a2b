package wal

import (
	"math"
	"math/rand"
	"slices"
	"strings"
	"testing"

	"lamella/api"
	"lamella/device"
)

// all keeps every unsettled write.
const all = math.MaxUint64

// keeps are what crashes keep: nothing, all, the first or the last of few, every second one, and mixtures.
var keeps = []uint64{0, 1, 2, 3, 4, 5, 6, 1 << 39, 1<<39 | 1, 0x5555555555555555, 0xaaaaaaaaaaaaaaaa, 0x123456789abcdef, 0xff00ff00ff00ff00, all - 1, all}

// number is a number's four bytes.
func number(n uint32) string {
	return string([]byte{byte(n >> 24), byte(n >> 16), byte(n >> 8), byte(n)})
}

// padded is bytes with noughts behind them, size in all.
func padded(s string, size int) string { return s + strings.Repeat("\x00", size-len(s)) }

// marked is a mark's block.
func marked(s, k uint32) string { return padded("LCOM"+number(s)+number(k), api.BlockSize) }

// home is a home block of this number (of the device's block), as commit s writes it.
func home(block, s uint32, data string) string {
	return padded(number(block)+number(s)+data, api.BlockSize)
}

// mixed is n bytes that all differ from their neighbours, none of them nought.
func mixed(from, n int) string {
	b := make([]byte, n)
	for i := range b {
		b[i] = byte(1 + (from+i)%255)
	}
	return string(b)
}

// is fails unless an error is the one that is wanted.
func is(t *testing.T, what string, err, want api.Errno) {
	t.Helper()
	if err != want {
		t.Errorf("%s = %d, want %d", what, err, want)
	}
}

// put writes a block of a device and settles it.
func put(t *testing.T, d *device.Device, at int, b string) {
	t.Helper()
	is(t, "Write", d.Write(at, b), api.OK)
	is(t, "Barrier", d.Barrier(), api.OK)
}

// open is the log of a device that can be opened.
func open(t *testing.T, d *device.Device) *Log {
	t.Helper()
	l, err := Open(d)
	if l == nil || err != api.OK {
		t.Fatalf("Open = %v, %d, want a log", l, err)
	}
	return l
}

// cannotOpen fails unless Open answers an error and no log.
func cannotOpen(t *testing.T, d *device.Device, want api.Errno) {
	t.Helper()
	l, err := Open(d)
	if l != nil || err != want {
		t.Errorf("Open = %v, %d, want nil, %d", l, err, want)
	}
}

// fresh is a new device with so many home blocks, and its log.
func fresh(t *testing.T, homes int) (*device.Device, *Log) {
	t.Helper()
	d := device.New(api.HomeFirst + homes)
	return d, open(t, d)
}

// reads fails unless a home block has this data, and noughts behind it.
func reads(t *testing.T, l *Log, at int, data string) {
	t.Helper()
	if s, err := l.Read(at); s != padded(data, api.DataSize) || err != api.OK {
		t.Errorf("Read(%d) = %.8q.. (%d bytes), %d, want %.8q..", at, s, len(s), err, data)
	}
}

// refuses fails unless a read is answered by an error and nothing else.
func refuses(t *testing.T, l *Log, at int, want api.Errno) {
	t.Helper()
	if s, err := l.Read(at); s != "" || err != want {
		t.Errorf("Read(%d) = %.8q.., %d, want %d", at, s, err, want)
	}
}

// has fails unless a log has this size and number.
func has(t *testing.T, l *Log, size int, last uint32) {
	t.Helper()
	if l.Size() != size || l.Last() != last {
		t.Errorf("Size %d, Last %d, want %d, %d", l.Size(), l.Last(), size, last)
	}
}

// settled are all blocks of a device without what is unsettled.
func settled(d *device.Device) []string {
	var l []string
	for at := range d.Blocks() {
		l = append(l, d.Settled(at))
	}
	return l
}

// same fails unless a device has these blocks, and nothing unsettled.
func same(t *testing.T, d *device.Device, want []string) {
	t.Helper()
	if d.Unsettled() != 0 {
		t.Errorf("%d writes are unsettled", d.Unsettled())
	}
	if len(want) != d.Blocks() {
		t.Fatalf("%d blocks, want %d", d.Blocks(), len(want))
	}
	for at, b := range want {
		if d.Settled(at) != b {
			t.Errorf("block %d is %.12q.., want %.12q..", at, d.Settled(at), b)
		}
	}
}

// datas are the data of all home blocks.
func datas(t *testing.T, l *Log) []string {
	t.Helper()
	var data []string
	for at := range l.Size() {
		s, err := l.Read(at)
		is(t, "Read", err, api.OK)
		data = append(data, s)
	}
	return data
}

// journal lays copies of the home blocks of these numbers into the journal, of commit s; their data begin with from, from + 1, and so on.
func journal(t *testing.T, d *device.Device, s uint32, from int, homes ...uint32) {
	t.Helper()
	for i, h := range homes {
		put(t, d, 1+i, home(h, s, mixed(from+i, api.DataSize)))
	}
}

// some are a commit's blocks: n of them, from the first one on, with data of many sizes.
func some(n, from int) []api.Block {
	var b []api.Block
	for i := range n {
		b = append(b, api.Block{At: i, Data: mixed(from+7*i, (i*37+from)%(api.DataSize+1))})
	}
	return b
}

// after is what home blocks are when a commit is done.
func after(before []string, b []api.Block) []string {
	now := slices.Clone(before)
	for _, x := range b {
		now[x.At] = padded(x.Data, api.DataSize)
	}
	return now
}

// P4.1: a device that isn't there, or that has no home block, is ErrArg, dead or not.
func TestOpenTooSmall(t *testing.T) {
	cannotOpen(t, nil, api.ErrArg)
	for _, blocks := range []int{-1, 1, 2, 40, api.HomeFirst} {
		d := device.New(blocks)
		cannotOpen(t, d, api.ErrArg)
		d.Fuse(0)
		cannotOpen(t, d, api.ErrArg)
		if d.Dead() {
			t.Errorf("a device of %d blocks was written to", blocks)
		}
		d.Barrier()
		cannotOpen(t, d, api.ErrArg)
	}
}

// P4.1, P4.2: a device of at least one home block is opened; a new one has the number 0, and is not written to.
func TestOpenNew(t *testing.T) {
	for _, blocks := range []int{api.HomeFirst + 1, api.HomeFirst + 2, 44, 100, api.MaxBlocks - 1, api.MaxBlocks} {
		d := device.New(blocks)
		before := settled(d)
		d.Fuse(0)
		l := open(t, d)
		has(t, l, blocks-api.HomeFirst, 0)
		for at := range l.Size() {
			reads(t, l, at, "")
		}
		if d.Dead() {
			t.Errorf("a device of %d blocks was written to", blocks)
		}
		same(t, d, before)
	}
}

// P4.1: a dead device is ErrDead, with a mark and without one.
func TestOpenDead(t *testing.T) {
	for _, m := range []string{padded("", api.BlockSize), marked(1, 1), marked(1, 0)} {
		d := device.New(api.HomeFirst + 1)
		journal(t, d, 1, 0, api.HomeFirst)
		put(t, d, 0, m)
		d.Fuse(0)
		d.Barrier()
		before := settled(d)
		cannotOpen(t, d, api.ErrDead)
		same(t, d, before)
	}
}

// P4.1: the copies of a complete mark are written to the home blocks that they name, and settled; nothing else is.
func TestOpenComplete(t *testing.T) {
	const blocks = 100
	for _, s := range []uint32{0, 1, 2, 77, 0x01020304, math.MaxUint32 - 1, math.MaxUint32} {
		for _, k := range []int{1, 2, 3, 39, api.MaxChange} {
			d := device.New(blocks)
			for at := api.HomeFirst; at < blocks; at++ {
				put(t, d, at, home(uint32(at), 5, "old"))
			}
			var homes []uint32
			for i := range k { // from the last home block on downwards, and the first one as the last
				homes = append(homes, uint32(blocks-1-i))
			}
			homes[k-1] = api.HomeFirst
			journal(t, d, s, 3, homes...)
			put(t, d, 0, marked(s, uint32(k)))
			want := settled(d)
			for i, h := range homes {
				want[h] = home(h, s, mixed(3+i, api.DataSize))
			}
			d.Fuse(k + 1)
			l := open(t, d)
			has(t, l, blocks-api.HomeFirst, s)
			same(t, d, want)
			for i, h := range homes {
				reads(t, l, int(h)-api.HomeFirst, mixed(3+i, api.DataSize))
			}
			is(t, "Barrier behind the fuse", d.Barrier(), api.ErrDead)
		}
	}
}

// P4.1: whole blocks are copied, and what lies in the journal behind the last of them doesn't count.
func TestOpenCopies(t *testing.T) {
	d := device.New(50)
	journal(t, d, 9, 1, 49, 41)
	put(t, d, 3, strings.Repeat("x", api.BlockSize))
	put(t, d, 4, home(45, 9, "behind"))
	put(t, d, 0, marked(9, 2))
	want := settled(d)
	want[49], want[41] = want[1], want[2]
	l := open(t, d)
	same(t, d, want)
	has(t, l, 9, 9)
	reads(t, l, 4, "")
}

// P4.1: copies are written in their order: of two that name one home block the second one is there.
func TestOpenTwice(t *testing.T) {
	d := device.New(44)
	journal(t, d, 3, 0, 42, 43, 42)
	put(t, d, 0, marked(3, 3))
	want := settled(d)
	want[42], want[43] = want[3], want[2]
	l := open(t, d)
	same(t, d, want)
	has(t, l, 3, 3)
}

// P4.1: a mark is complete by its first twelve bytes and its copies; no other byte of it is asked.
func TestOpenBehindMark(t *testing.T) {
	d := device.New(43)
	journal(t, d, 3, 0, 42)
	put(t, d, 0, marked(3, 1)[:12]+strings.Repeat("x", api.BlockSize-12))
	want := settled(d)
	want[42] = want[1]
	l := open(t, d)
	same(t, d, want)
	has(t, l, 2, 3)
}

// P4.1: what is unsettled is read, and settled with the rest.
func TestOpenUnsettled(t *testing.T) {
	d := device.New(43)
	d.Write(1, home(42, 3, "a"))
	d.Write(0, marked(3, 1))
	l := open(t, d)
	reads(t, l, 1, "a")
	if d.Unsettled() != 0 || d.Settled(42) != home(42, 3, "a") || d.Settled(0) != marked(3, 1) {
		t.Error("what was unsettled still is")
	}
}

// notDone fails unless a device is opened without a write or a barrier, with this number.
func notDone(t *testing.T, what string, d *device.Device, last uint32) {
	t.Helper()
	before := settled(d)
	d.Fuse(0)
	l, err := Open(d)
	if l == nil || err != api.OK || d.Dead() {
		t.Errorf("%s: Open = %v, %d, dead %v", what, l, err, d.Dead())
		return
	}
	if l.Last() != last {
		t.Errorf("%s: Last = %d, want %d", what, l.Last(), last)
	}
	d.Fuse(-1)
	same(t, d, before)
}

// P4.1: without a mark nothing is written, and the number is 0.
func TestOpenNoMark(t *testing.T) {
	whole := marked(0x01020304, 2)
	var wrong []string
	for i := range 4 {
		b := []byte(whole)
		b[i] ^= 0x20
		wrong = append(wrong, string(b))
		b[i] = 0
		wrong = append(wrong, string(b))
	}
	wrong = append(wrong, "\x00"+whole[:api.BlockSize-1], whole[1:]+"\x00", "MOCL"+whole[4:], padded("", api.BlockSize), strings.Repeat("L", api.BlockSize))
	for _, b := range wrong {
		d := device.New(44)
		journal(t, d, 0x01020304, 0, 42, 43)
		put(t, d, 0, b)
		notDone(t, "no mark", d, 0)
	}
}

// P4.1: a mark that counts no copy, or more than there can be, isn't complete, though all that it counts seems to be there; it has its number.
func TestOpenCounts(t *testing.T) {
	for _, s := range []uint32{1, 5, math.MaxUint32} {
		for _, k := range []uint32{0, 41, 42, 43, 44, 255, 1<<16 | 1, 1<<24 | 1, 1 << 31, 1<<31 | 1, math.MaxUint32 - 1, math.MaxUint32} {
			d := device.New(44)
			for at := 1; at < 44; at++ {
				put(t, d, at, home(uint32(41+at%3), s, mixed(at, 9)))
			}
			put(t, d, 0, marked(s, k))
			notDone(t, "count", d, s)
		}
	}
}

// P4.1: a mark isn't complete if one of its copies, wherever it stands, names no home block, or is of another commit.
func TestOpenIncomplete(t *testing.T) {
	const blocks, s = 90, 0x01020304
	var wrong []string
	for _, h := range []uint32{0, 1, 39, 40, blocks, blocks + 1, api.MaxBlocks, 41 << 8, 41 << 24, 1<<31 | 41, 1<<16 | 41, math.MaxUint32} {
		wrong = append(wrong, home(h, s, "x"))
	}
	for _, n := range []uint32{0, 1, s - 1, s + 1, 0x04030201, 0x02030401, s | 1<<31, s ^ 1<<16, math.MaxUint32} {
		wrong = append(wrong, home(41, n, "x"))
	}
	wrong = append(wrong, padded("", api.BlockSize), number(s)+number(41)+home(41, s, "")[8:], "\x00"+home(41, s, "")[:api.BlockSize-1])
	for _, k := range []int{1, 2, 3, api.MaxChange} {
		var homes []uint32
		for i := range k {
			homes = append(homes, uint32(41+i))
		}
		for _, at := range []int{1, 1 + k/2, k} {
			for _, b := range wrong {
				d := device.New(blocks)
				journal(t, d, s, 0, homes...)
				put(t, d, at, b)
				put(t, d, 0, marked(s, uint32(k)))
				notDone(t, "incomplete", d, s)
			}
		}
	}
}

// P4.1: the first and the last home block are home blocks, on devices of several sizes, and the one behind isn't.
func TestOpenEdges(t *testing.T) {
	for _, blocks := range []int{42, 43, 100, api.MaxBlocks} {
		for _, h := range []int{api.HomeFirst, blocks - 1} {
			d := device.New(blocks)
			journal(t, d, 1, 0, uint32(h))
			put(t, d, 0, marked(1, 1))
			reads(t, open(t, d), h-api.HomeFirst, mixed(0, api.DataSize))
		}
		for _, h := range []int{api.HomeFirst - 1, blocks} {
			d := device.New(blocks)
			journal(t, d, 1, 0, uint32(h))
			put(t, d, 0, marked(1, 1))
			notDone(t, "no home block", d, 1)
		}
	}
}

// P4.1: where nothing is to be done, what is unsettled stays unsettled.
func TestOpenLeavesUnsettled(t *testing.T) {
	d := device.New(43)
	d.Write(0, marked(7, 1))
	d.Write(42, home(42, 7, "a"))
	l := open(t, d)
	has(t, l, 2, 7)
	reads(t, l, 1, "a")
	if d.Unsettled() != 2 || d.Settled(0) != padded("", api.BlockSize) {
		t.Errorf("%d writes are unsettled, want 2", d.Unsettled())
	}
}

// P4.1: a device that dies at any step of an Open is ErrDead; the home blocks are written in the order of the copies, each unsettled until the barrier.
func TestOpenDies(t *testing.T) {
	homes := []uint32{45, 41, 44, 42}
	for _, k := range []int{1, 2, 4} {
		for fuse := range k + 1 {
			for _, keep := range keeps {
				d := device.New(46)
				journal(t, d, 2, 0, homes[:k]...)
				put(t, d, 0, marked(2, uint32(k)))
				want := settled(d)
				d.Fuse(fuse)
				cannotOpen(t, d, api.ErrDead)
				if !d.Dead() || d.Unsettled() != fuse {
					t.Errorf("with a fuse of %d, dead %v, %d writes are unsettled", fuse, d.Dead(), d.Unsettled())
				}
				d.Crash(keep)
				for i := range fuse {
					if keep>>i&1 == 1 {
						want[homes[i]] = want[1+i]
					}
				}
				same(t, d, want)
				for i, h := range homes[:k] {
					want[h] = want[1+i]
				}
				has(t, open(t, d), 5, 2)
				same(t, d, want)
			}
		}
	}
}

// P4.2: a block that there isn't is ErrArg, also of a dead device; one that there is, of a dead device, is ErrDead, and is there again when the device is.
func TestRead(t *testing.T) {
	for _, homes := range []int{1, 3, api.MaxBlocks - api.HomeFirst} {
		d, l := fresh(t, homes)
		put(t, d, api.HomeFirst, strings.Repeat("x", 8)+mixed(0, api.DataSize))
		put(t, d, api.HomeFirst+homes-1, mixed(9, api.BlockSize))
		l = open(t, d)
		wrong := []int{-1, -2, -api.HomeFirst, -api.HomeFirst - 1, homes, homes + 1, api.MaxBlocks, math.MinInt, math.MaxInt, math.MaxInt - api.HomeFirst, math.MaxInt - api.HomeFirst + 1, 1 << 32}
		check := func() {
			t.Helper()
			if homes > 1 {
				reads(t, l, 0, mixed(0, api.DataSize))
			}
			reads(t, l, homes-1, mixed(9, api.BlockSize)[8:])
			for _, at := range wrong {
				refuses(t, l, at, api.ErrArg)
			}
			has(t, l, homes, 0)
		}
		check()
		d.Fuse(0)
		check()
		d.Barrier()
		for _, at := range wrong {
			refuses(t, l, at, api.ErrArg)
		}
		refuses(t, l, 0, api.ErrDead)
		refuses(t, l, homes-1, api.ErrDead)
		has(t, l, homes, 0)
		d.Crash(0)
		check()
	}
}

// P4.2, P4.3: what a nil log answers.
func TestNil(t *testing.T) {
	var l *Log
	for range 2 {
		has(t, l, 0, 0)
		for _, at := range []int{0, 1, -1, math.MinInt, math.MaxInt} {
			refuses(t, l, at, api.ErrDead)
			is(t, "Commit", l.Commit([]api.Block{{At: at}}), api.ErrDead)
		}
		is(t, "Commit of nothing", l.Commit(nil), api.ErrDead)
		is(t, "Commit of no block", l.Commit([]api.Block{}), api.ErrDead)
		is(t, "Commit of too many", l.Commit(some(41, 0)), api.ErrDead)
		is(t, "Commit of too much", l.Commit([]api.Block{{Data: mixed(0, 249)}}), api.ErrDead)
	}
}

// wrongs are commits that a log of 50 home blocks refuses.
func wrongs() map[string][]api.Block {
	long := some(50, 0)
	twice := some(40, 0)
	twice[39].At = 0
	twin := some(40, 0)
	twin[39] = twin[38]
	late := some(40, 0)
	late[39].At = 50
	deep := some(40, 0)
	deep[39].Data = mixed(0, api.DataSize+1)
	return map[string][]api.Block{
		"nil": nil, "none": {}, "41": long[:41], "50": long, "a million": make([]api.Block, 1<<20),
		"-1": {{At: -1, Data: "a"}}, "50th": {{At: 50, Data: "a"}}, "51st": {{At: 51}}, "-41": {{At: -41}}, "-42": {{At: -42}},
		"most": {{At: math.MaxInt}}, "nearly": {{At: math.MaxInt - api.HomeFirst}}, "over": {{At: math.MaxInt - api.HomeFirst + 1}}, "least": {{At: math.MinInt}}, "wide": {{At: 1 << 32}},
		"second": {{At: 1, Data: "a"}, {At: 50}}, "first": {{At: -1}, {At: 1, Data: "a"}}, "fortieth": late,
		"pair": {{At: 3, Data: "a"}, {At: 3, Data: "a"}}, "differing pair": {{At: 3, Data: "a"}, {At: 3}}, "apart": {{At: 3}, {At: 4}, {At: 3, Data: "b"}}, "far apart": twice, "last pair": twin, "pair of the last": {{At: 49}, {At: 49}},
		"long": {{At: 0, Data: mixed(0, api.DataSize+1)}}, "longer": {{At: 0, Data: mixed(0, api.BlockSize)}}, "longest": {{At: 0, Data: mixed(0, 1<<20)}}, "noughts": {{At: 0, Data: padded("", api.DataSize+1)}},
		"long behind": {{At: 0}, {At: 1, Data: mixed(0, api.DataSize+1)}}, "long ahead": {{At: 1, Data: mixed(0, api.DataSize+1)}, {At: 0}}, "long at last": deep,
	}
}

// P4.3: a commit that can't be done is ErrArg, and neither writes nor hinders any later commit.
func TestCommitWrong(t *testing.T) {
	for what, b := range wrongs() {
		d, l := fresh(t, 50)
		is(t, "Commit", l.Commit(some(2, 200)), api.OK)
		before := settled(d)
		d.Fuse(0)
		is(t, what, l.Commit(b), api.ErrArg)
		if d.Dead() {
			t.Errorf("%s: the device was written to", what)
		}
		has(t, l, 50, 1)
		d.Fuse(-1)
		same(t, d, before)
		reads(t, l, 0, some(2, 200)[0].Data)
		is(t, "Commit behind it", l.Commit(some(1, 3)), api.OK)
		has(t, l, 50, 2)
	}
}

// P4.3: what can't be done is ErrArg ahead of a number that is used up, and of a log that is dead.
func TestCommitWrongFirst(t *testing.T) {
	for what, b := range wrongs() {
		d := device.New(api.HomeFirst + 50)
		put(t, d, 0, marked(math.MaxUint32, 0))
		l := open(t, d)
		is(t, what, l.Commit(b), api.ErrArg)
		is(t, "Commit at the last number", l.Commit(some(1, 0)), api.ErrMany)
		d, l = fresh(t, 50)
		d.Fuse(2)
		is(t, "Commit", l.Commit(some(3, 0)), api.ErrDead)
		is(t, what, l.Commit(b), api.ErrArg)
		d.Crash(0)
		is(t, what, l.Commit(b), api.ErrArg)
		is(t, "Commit", l.Commit(some(3, 0)), api.ErrDead)
		d, l = fresh(t, 50)
		d.Fuse(0)
		d.Barrier()
		is(t, what, l.Commit(b), api.ErrArg)
	}
}

// P4.3: the last number is reached, and no commit is done behind it: ErrMany, of a dead device too; nothing is written, and reads go on.
func TestCommitMany(t *testing.T) {
	d := device.New(44)
	put(t, d, 0, marked(math.MaxUint32-2, 0))
	l := open(t, d)
	has(t, l, 3, math.MaxUint32-2)
	is(t, "Commit", l.Commit([]api.Block{{At: 1, Data: "a"}}), api.OK)
	has(t, l, 3, math.MaxUint32-1)
	is(t, "Commit", l.Commit([]api.Block{{At: 2, Data: "b"}}), api.OK)
	has(t, l, 3, math.MaxUint32)
	before := settled(d)
	if before[0] != marked(math.MaxUint32, 1) || before[43] != home(43, math.MaxUint32, "b") {
		t.Error("the last commit's number is wrong")
	}
	for range 3 {
		d.Fuse(0)
		is(t, "Commit", l.Commit([]api.Block{{At: 0, Data: "c"}}), api.ErrMany)
		has(t, l, 3, math.MaxUint32)
		reads(t, l, 0, "")
		reads(t, l, 1, "a")
		reads(t, l, 2, "b")
		if d.Dead() {
			t.Fatal("the device was written to")
		}
	}
	d.Barrier()
	is(t, "Commit", l.Commit([]api.Block{{At: 0, Data: "c"}}), api.ErrMany)
	d.Crash(0)
	reads(t, l, 2, "b")
	same(t, d, before)
	l = open(t, d)
	is(t, "Commit", l.Commit([]api.Block{{At: 0, Data: "c"}}), api.ErrMany)
	same(t, d, before)
}

// P4.3: what a commit leaves on the device: copies, the mark, home blocks; all other blocks are as they were.
func TestCommit(t *testing.T) {
	d, l := fresh(t, 60)
	want := settled(d)
	for i, n := range []int{1, 3, api.MaxChange, 2, 1, 39, api.MaxChange} {
		b := some(n, 11*i)
		for j := range b { // neither rising nor falling, the last home block too
			b[j].At = (59 + 7*i + 23*j) % 60
		}
		s := uint32(1 + i)
		is(t, "Commit", l.Commit(b), api.OK)
		want[0] = marked(s, uint32(n))
		for j, x := range b {
			want[1+j] = home(uint32(api.HomeFirst+x.At), s, x.Data)
			want[api.HomeFirst+x.At] = want[1+j]
		}
		same(t, d, want)
		has(t, l, 60, s)
		for at := range 60 {
			reads(t, l, at, want[api.HomeFirst+at][8:])
		}
	}
}

// P4.3: data of any size that there is room for, also of noughts, are there with noughts behind them, whatever the block had.
func TestCommitData(t *testing.T) {
	for _, homes := range []int{1, api.MaxBlocks - api.HomeFirst} {
		d, l := fresh(t, homes)
		for i, s := range []string{mixed(0, api.DataSize), "", "a", "\x00", "a\x00b", mixed(5, api.DataSize-1), mixed(6, api.DataSize), "\xff\xfe", padded("z", api.DataSize), padded("", api.DataSize)} {
			is(t, "Commit", l.Commit([]api.Block{{At: homes - 1, Data: s}}), api.OK)
			reads(t, l, homes-1, s)
			has(t, l, homes, uint32(1+i))
			reads(t, open(t, d), homes-1, s)
			if b := d.Settled(api.HomeFirst + homes - 1); b != home(uint32(api.HomeFirst+homes-1), uint32(1+i), s) {
				t.Errorf("the home block is %.12q", b)
			}
		}
	}
}

// P4.3: a commit that changes nothing is one all the same.
func TestCommitAgain(t *testing.T) {
	d, l := fresh(t, 2)
	for s := range uint32(5) {
		is(t, "Commit", l.Commit([]api.Block{{At: 1, Data: "a"}}), api.OK)
		has(t, l, 2, s+1)
		if d.Settled(0) != marked(s+1, 1) || d.Settled(42) != home(42, s+1, "a") {
			t.Error("the number is wrong")
		}
	}
}

// P4.3: the number goes on from that of the mark, complete or not.
func TestCommitGoesOn(t *testing.T) {
	for _, k := range []uint32{0, 1, 2, 41} {
		for _, s := range []uint32{0, 6, 255, 1<<24 - 1, math.MaxUint32 - 1} {
			d := device.New(44)
			journal(t, d, s, 0, 42)
			put(t, d, 0, marked(s, k))
			l := open(t, d)
			is(t, "Commit", l.Commit([]api.Block{{At: 2, Data: "a"}}), api.OK)
			has(t, l, 3, s+1)
			if d.Settled(0) != marked(s+1, 1) || d.Settled(1) != home(43, s+1, "a") || d.Settled(43) != home(43, s+1, "a") {
				t.Errorf("behind the number %d it doesn't go on", s)
			}
		}
	}
}

// The chapter's examples.
func TestExamples(t *testing.T) {
	for fuse := range 8 {
		d := device.New(44)
		l := open(t, d)
		has(t, l, 3, 0)
		d.Fuse(fuse)
		want := api.OK
		if fuse < 6 {
			want = api.ErrDead
		}
		is(t, "Commit", l.Commit([]api.Block{{At: 1, Data: "a"}}), want)
		if fuse == 6 {
			reads(t, l, 1, "a")
			is(t, "Barrier behind the fuse", d.Barrier(), api.ErrDead)
		}
	}
}

// step is a write of a block, or a barrier (at below 0).
type step struct {
	at    int
	bytes string
}

// barrier settles all.
var barrier = step{at: -1}

// steps are those of a commit.
func steps(s uint32, b []api.Block) []step {
	var ahead, behind []step
	for i, x := range b {
		h := api.HomeFirst + x.At
		ahead = append(ahead, step{1 + i, home(uint32(h), s, x.Data)})
		behind = append(behind, step{h, home(uint32(h), s, x.Data)})
	}
	ahead = append(ahead, barrier, step{0, marked(s, uint32(len(b)))}, barrier)
	return append(append(ahead, behind...), barrier)
}

// walk does steps until one of them fails.
func walk(d *device.Device, l []step) api.Errno {
	for _, s := range l {
		err := api.OK
		if s == barrier {
			err = d.Barrier()
		} else {
			err = d.Write(s.at, s.bytes)
		}
		if err != api.OK {
			return err
		}
	}
	return api.OK
}

// alike fails unless two devices are in all respects the same.
func alike(t *testing.T, d, twin *device.Device) {
	t.Helper()
	if d.Dead() != twin.Dead() || d.Unsettled() != twin.Unsettled() {
		t.Errorf("dead %v, unsettled %d, want %v, %d", d.Dead(), d.Unsettled(), twin.Dead(), twin.Unsettled())
	}
	for at := range d.Blocks() {
		a, e := d.Read(at)
		b, f := twin.Read(at)
		if a != b || e != f || d.Settled(at) != twin.Settled(at) {
			t.Errorf("block %d is %.12q, %d, want %.12q, %d", at, a, e, b, f)
		}
	}
}

// P4.3: a commit's steps, and their order: wherever the device dies, and whatever is kept, it is as steps leave it that are done one by one; the commit is ErrDead, and so is the log from then on.
func TestCommitDies(t *testing.T) {
	for _, n := range []int{1, 2, 5} {
		b := some(n, 50)
		slices.Reverse(b)
		count := 2*n + 4
		for fuse := range count + 2 {
			for _, keep := range keeps {
				d, l := fresh(t, 6)
				twin := device.New(d.Blocks())
				is(t, "Commit", l.Commit(some(3, 9)), api.OK)
				is(t, "steps", walk(twin, steps(1, some(3, 9))), api.OK)
				alike(t, d, twin)
				d.Fuse(fuse)
				twin.Fuse(fuse)
				err := l.Commit(b)
				is(t, "Commit", err, walk(twin, steps(2, b)))
				if died := fuse < count; died != (err == api.ErrDead) {
					t.Errorf("%d blocks with a fuse of %d: Commit = %d", n, fuse, err)
				}
				alike(t, d, twin)
				if err == api.ErrDead {
					dead(t, l, 6, 1)
				}
				d.Crash(keep)
				twin.Crash(keep)
				alike(t, d, twin)
				if err == api.ErrDead {
					dead(t, l, 6, 1)
					alike(t, d, twin)
				}
			}
		}
	}
}

// dead fails unless a log answers ErrDead to all that isn't ErrArg; it keeps its size and number.
func dead(t *testing.T, l *Log, size int, last uint32) {
	t.Helper()
	for range 2 {
		for at := range size {
			refuses(t, l, at, api.ErrDead)
			is(t, "Commit of a dead log", l.Commit([]api.Block{{At: at, Data: "x"}}), api.ErrDead)
		}
		refuses(t, l, -1, api.ErrArg)
		refuses(t, l, size, api.ErrArg)
		is(t, "Commit of nothing", l.Commit(nil), api.ErrArg)
		has(t, l, size, last)
	}
}

// P4.3: a commit to a device that is dead already is ErrDead.
func TestCommitDead(t *testing.T) {
	d, l := fresh(t, 2)
	is(t, "Commit", l.Commit(some(2, 1)), api.OK)
	before := settled(d)
	d.Fuse(0)
	d.Barrier()
	is(t, "Commit", l.Commit(some(1, 9)), api.ErrDead)
	has(t, l, 2, 1)
	same(t, d, before)
}

// P4.3: a log that died doesn't hinder one that is opened behind it.
func TestCommitAnew(t *testing.T) {
	d, l := fresh(t, 3)
	d.Fuse(1)
	is(t, "Commit", l.Commit(some(2, 1)), api.ErrDead)
	d.Crash(all)
	m := open(t, d)
	is(t, "Commit", m.Commit(some(2, 30)), api.OK)
	has(t, m, 3, 1)
	reads(t, m, 1, some(2, 30)[1].Data)
	dead(t, l, 3, 0)
}

// P4.4: wherever the device fails in a commit and in the Open behind it, and whatever both crashes keep, all home blocks are as before or all as after; once a log has told which, it stays so.
func TestAtomic(t *testing.T) {
	few := []uint64{0, 1, 2, 4, 5, 0x5555555555555555, all - 1, all}
	for _, n := range []int{1, 2, 4} {
		b := some(n, 90)
		for fuse := range 2*n + 5 {
			for _, keep := range few {
				for again := range n + 2 {
					for _, kept := range few {
						broken(t, b, fuse, keep, again, kept)
						if t.Failed() {
							t.Fatalf("%d blocks, fuse %d, keep %x, fuse %d, keep %x", n, fuse, keep, again, kept)
						}
					}
				}
			}
		}
	}
}

// broken breaks a commit off, and the Open behind it.
func broken(t *testing.T, b []api.Block, fuse int, keep uint64, again int, kept uint64) {
	t.Helper()
	d, l := fresh(t, 5)
	is(t, "Commit", l.Commit(some(3, 9)), api.OK)
	is(t, "Commit", l.Commit(some(2, 60)), api.OK)
	before := datas(t, l)
	now := after(before, b)
	d.Fuse(fuse)
	done := l.Commit(b) == api.OK
	d.Crash(keep)
	d.Fuse(again)
	if m, err := Open(d); err == api.OK {
		told := datas(t, m)
		if !slices.Equal(told, before) && !slices.Equal(told, now) {
			t.Error("the data are neither those before nor those after")
		}
		before, now = told, told
	}
	d.Crash(kept)
	m := open(t, d)
	told := datas(t, m)
	if !slices.Equal(told, before) && !slices.Equal(told, now) || done && !slices.Equal(told, now) {
		t.Error("the data are neither those before nor those after")
	}
	next := some(3, 120)
	is(t, "Commit", m.Commit(next), api.OK)
	if !slices.Equal(datas(t, open(t, d)), after(told, next)) {
		t.Error("the next commit isn't done")
	}
}

// P4.4: what becomes of a commit is settled by its mark: before it is written nothing is done, and behind its barrier all is.
func TestMarkSettles(t *testing.T) {
	for _, n := range []int{1, 3, api.MaxChange} {
		b := some(n, 90)
		for fuse := range 2*n + 5 {
			for _, keep := range []uint64{0, 1, all} {
				d, l := fresh(t, n)
				before := datas(t, l)
				d.Fuse(fuse)
				err := l.Commit(b)
				d.Crash(keep)
				l = open(t, d)
				done := fuse > n+2 || fuse == n+2 && keep&1 == 1
				if done {
					has(t, l, n, 1)
					before = after(before, b)
				} else {
					has(t, l, n, 0)
				}
				if !slices.Equal(datas(t, l), before) || (err == api.OK) != (fuse >= 2*n+4) {
					t.Fatalf("%d blocks, fuse %d, keep %x: Commit = %d", n, fuse, keep, err)
				}
			}
		}
	}
}

// P4.5: a device that is opened again is as it was, however often, and both logs tell the same.
func TestOpenAgain(t *testing.T) {
	for fuse := range 12 {
		for _, keep := range keeps {
			d, l := fresh(t, 4)
			is(t, "Commit", l.Commit(some(4, 9)), api.OK)
			d.Fuse(fuse)
			l.Commit(some(3, 70))
			d.Crash(keep)
			l = open(t, d)
			once, told := settled(d), datas(t, l)
			for range 3 {
				m := open(t, d)
				same(t, d, once)
				has(t, m, 4, l.Last())
				if !slices.Equal(datas(t, m), told) || !slices.Equal(datas(t, l), told) {
					t.Error("what is opened again has other data")
				}
			}
		}
	}
}

// P4.6: in whichever order the blocks stand, the data are the same.
func TestOrder(t *testing.T) {
	r := rand.New(rand.NewSource(1))
	for _, n := range []int{2, 3, api.MaxChange} {
		b := some(n, 20)
		var want []string
		for range 20 {
			d, l := fresh(t, n+2)
			is(t, "Commit", l.Commit(some(n, 77)), api.OK)
			is(t, "Commit", l.Commit(b), api.OK)
			if want == nil {
				want = datas(t, l)
			}
			if !slices.Equal(datas(t, l), want) || !slices.Equal(datas(t, open(t, d)), want) {
				t.Errorf("%d blocks in another order have other data", n)
			}
			r.Shuffle(n, func(i, j int) { b[i], b[j] = b[j], b[i] })
		}
	}
}

// Common rule 4: a list is neither changed nor kept, its spare room too; what was read stays as it was.
func TestMemory(t *testing.T) {
	for _, fuse := range []int{-1, 3, 8} {
		room := some(10, 5)
		slices.Reverse(room)
		was := slices.Clone(room)
		d, l := fresh(t, 10)
		d.Fuse(fuse)
		err := l.Commit(room[2:5])
		if !slices.Equal(room, was) {
			t.Error("the list was changed")
		}
		for i := range room {
			room[i] = api.Block{At: 9 - i, Data: "over"}
		}
		d.Crash(0)
		if fuse >= 0 {
			is(t, "Commit", err, api.ErrDead)
			l = open(t, d)
		}
		var want []string
		for range 10 {
			want = append(want, padded("", api.DataSize))
		}
		if fuse != 3 {
			want = after(want, was[2:5])
		}
		told := datas(t, l)
		if !slices.Equal(told, want) {
			t.Errorf("fuse %d: the list was kept", fuse)
		}
		is(t, "Commit", l.Commit([]api.Block{{At: 5, Data: "new"}, {At: 6}}), api.OK)
		if !slices.Equal(told, want) {
			t.Error("what was read has changed")
		}
	}
}

// Nothing that is done to one log is seen in that of another device.
func TestApart(t *testing.T) {
	d, l := fresh(t, 2)
	e, m := fresh(t, 3)
	is(t, "Commit", l.Commit([]api.Block{{At: 0, Data: "a"}}), api.OK)
	has(t, m, 3, 0)
	reads(t, m, 0, "")
	d.Fuse(0)
	is(t, "Commit", l.Commit([]api.Block{{At: 0, Data: "b"}}), api.ErrDead)
	is(t, "Commit", m.Commit([]api.Block{{At: 2, Data: "c"}}), api.OK)
	has(t, l, 2, 1)
	reads(t, open(t, e), 2, "c")
}

// telling is what a log is to be, told another way: a device that is written to step by step, and what the data are now.
type telling struct {
	twin *device.Device
	data []string
	last uint32
	dead bool
}

// commit is what a commit is to answer and to do.
func (s *telling) commit(b []api.Block) api.Errno {
	if s.dead {
		return api.ErrDead
	}
	err := walk(s.twin, steps(s.last+1, b))
	s.dead = err != api.OK
	if !s.dead {
		s.last++
		s.data = after(s.data, b)
	}
	return err
}

// P4.1 to P4.6: over many commits, deaths, crashes and openings that die themselves, the device is as steps done one by one leave it, and the data are those before or after the commit that was broken off.
func TestLongRun(t *testing.T) {
	for seed := range int64(120) {
		r := rand.New(rand.NewSource(seed))
		homes := 1 + r.Intn(50)
		d, l := fresh(t, homes)
		s := &telling{twin: device.New(d.Blocks()), data: datas(t, l)}
		for range 60 {
			before := s.data
			b := anyBlocks(r, homes)
			if fuse := r.Intn(4*len(b)+20) - 5; fuse < 2*len(b)+4 {
				d.Fuse(fuse)
				s.twin.Fuse(fuse)
			}
			is(t, "Commit", l.Commit(b), s.commit(b))
			alike(t, d, s.twin)
			if !s.dead {
				d.Fuse(-1)
				s.twin.Fuse(-1)
				if l.Last() != s.last || !slices.Equal(datas(t, l), s.data) {
					t.Errorf("the data, or the number %d, aren't those of the commit %d", l.Last(), s.last)
				}
			} else {
				l = reopened(t, r, d, s.twin)
				s.data, s.last, s.dead = datas(t, l), l.Last(), false
				if !slices.Equal(s.data, before) && !slices.Equal(s.data, after(before, b)) {
					t.Error("the data are neither those before nor those after")
				}
			}
			if t.Failed() {
				t.Fatalf("seed %d", seed)
			}
		}
	}
}

// anyBlocks are blocks that can be committed.
func anyBlocks(r *rand.Rand, homes int) []api.Block {
	var b []api.Block
	for _, at := range r.Perm(homes)[:1+r.Intn(min(homes, api.MaxChange))] {
		b = append(b, api.Block{At: at, Data: mixed(r.Intn(255), r.Intn(api.DataSize+1))})
	}
	return b
}

// reopened is the log of a dead device, behind crashes and openings that die; the twin is opened once, by its mark alone, and must then be the same.
func reopened(t *testing.T, r *rand.Rand, d, twin *device.Device) *Log {
	t.Helper()
	keep := r.Uint64()
	d.Crash(keep)
	twin.Crash(keep)
	for range r.Intn(4) {
		d.Fuse(r.Intn(8))
		if _, err := Open(d); err != api.OK {
			is(t, "Open", err, api.ErrDead)
		}
		d.Crash(r.Uint64())
	}
	l := open(t, d)
	is(t, "steps", walk(twin, mending(twin)), api.OK)
	alike(t, d, twin)
	return l
}

// mending are the steps of an Open.
func mending(d *device.Device) []step {
	m := d.Settled(0)
	var l []step
	for i := range api.MaxChange {
		b := d.Settled(1 + i)
		for at := api.HomeFirst; at < d.Blocks(); at++ {
			if strings.HasPrefix(b, number(uint32(at))+m[4:8]) {
				l = append(l, step{at, b})
			}
		}
		if len(l) != i+1 {
			return nil
		}
		if m == "LCOM"+m[4:8]+padded(number(uint32(i+1)), api.BlockSize-8) {
			return append(l, barrier)
		}
	}
	return nil
}
