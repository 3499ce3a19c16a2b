package device

import (
	"math"
	"math/rand"
	"strings"
	"testing"

	"lamella/api"
)

// nought is what a block has that was never written.
var nought = strings.Repeat("\x00", api.BlockSize)

// all keeps every unsettled write.
const all = math.MaxUint64

// full is a block of one letter.
func full(c byte) string { return strings.Repeat(string(rune(c)), api.BlockSize) }

// mixed is a block whose bytes all differ, beginning with n: bytes that change places are seen.
func mixed(n int) string {
	b := make([]byte, api.BlockSize)
	for i := range b {
		b[i] = byte(n + i)
	}
	return string(b)
}

// reads fails unless a block is read as want.
func reads(t *testing.T, d *Device, at int, want string) {
	t.Helper()
	if s, err := d.Read(at); s != want || err != api.OK {
		t.Errorf("Read(%d) = %.8q.. (%d bytes), %d, want %.8q..", at, s, len(s), err, want)
	}
}

// settled fails unless a block is settled as want.
func settled(t *testing.T, d *Device, at int, want string) {
	t.Helper()
	if s := d.Settled(at); s != want {
		t.Errorf("Settled(%d) = %.8q.. (%d bytes), want %.8q..", at, s, len(s), want)
	}
}

// refuses fails unless a read is answered by an error and nothing else.
func refuses(t *testing.T, d *Device, at int, want api.Errno) {
	t.Helper()
	if s, err := d.Read(at); s != "" || err != want {
		t.Errorf("Read(%d) = %q, %d, want %d", at, s, err, want)
	}
}

// is fails unless an error is the one that is wanted.
func is(t *testing.T, what string, err, want api.Errno) {
	t.Helper()
	if err != want {
		t.Errorf("%s = %d, want %d", what, err, want)
	}
}

// state fails unless the device is dead or not, with so many unsettled writes.
func state(t *testing.T, d *Device, dead bool, unsettled int) {
	t.Helper()
	if d.Dead() != dead || d.Unsettled() != unsettled {
		t.Errorf("dead %v, unsettled %d, want %v, %d", d.Dead(), d.Unsettled(), dead, unsettled)
	}
}

// dying is a device of two blocks that is dead, with one unsettled write of block 0.
func dying(t *testing.T) *Device {
	t.Helper()
	d := New(2)
	d.Fuse(1)
	is(t, "Write", d.Write(0, mixed(1)), api.OK)
	is(t, "Write with the fuse at 0", d.Write(1, mixed(2)), api.ErrDead)
	state(t, d, true, 1)
	return d
}

// wrong are blocks that a device of two doesn't have.
var wrong = []int{2, 3, -1, -2, api.MaxBlocks, math.MaxInt, math.MinInt, math.MaxInt32 + 1, 1 << 32}

// P3.1: a device has the blocks that are asked for, but at least one and at most MaxBlocks.
func TestNew(t *testing.T) {
	for blocks, want := range map[int]int{
		math.MinInt: 1, -1: 1, 0: 1, 1: 1, 2: 2, 41: 41, 1023: 1023, 1024: 1024, 1025: 1024, 1 << 32: 1024, math.MaxInt: 1024,
	} {
		d := New(blocks)
		if d.Blocks() != want {
			t.Errorf("New(%d) has %d blocks, want %d", blocks, d.Blocks(), want)
			continue
		}
		state(t, d, false, 0)
		for _, at := range []int{0, want / 2, want - 1} {
			reads(t, d, at, nought)
			settled(t, d, at, nought)
		}
		for _, at := range []int{-1, want, want + 1, math.MinInt, math.MaxInt} {
			refuses(t, d, at, api.ErrArg)
			settled(t, d, at, "")
			is(t, "Write", d.Write(at, mixed(0)), api.ErrArg)
		}
		state(t, d, false, 0)
	}
}

// P3.1, P3.2: every block, the first and the last one too, has its own bytes.
func TestEveryBlock(t *testing.T) {
	for _, blocks := range []int{1, 2, 41, api.MaxBlocks} {
		d := New(blocks)
		for at := range blocks {
			is(t, "Write", d.Write(at, mixed(7*at)), api.OK)
		}
		state(t, d, false, blocks)
		for at := range blocks {
			reads(t, d, at, mixed(7*at))
			settled(t, d, at, nought)
		}
		is(t, "Barrier", d.Barrier(), api.OK)
		state(t, d, false, 0)
		for at := range blocks {
			reads(t, d, at, mixed(7*at))
			settled(t, d, at, mixed(7*at))
		}
		if d.Blocks() != blocks {
			t.Errorf("%d blocks are %d", blocks, d.Blocks())
		}
	}
}

// P3.1: a block is read as it was written last; it is settled as it was ahead of what is unsettled.
func TestRead(t *testing.T) {
	d := New(3)
	d.Write(1, mixed(1))
	reads(t, d, 1, mixed(1))
	settled(t, d, 1, nought)
	d.Write(1, mixed(2))
	reads(t, d, 1, mixed(2))
	settled(t, d, 1, nought)
	d.Barrier()
	settled(t, d, 1, mixed(2))
	d.Write(1, mixed(3))
	d.Write(2, mixed(4))
	d.Write(1, mixed(5))
	reads(t, d, 1, mixed(5))
	settled(t, d, 1, mixed(2))
	reads(t, d, 2, mixed(4))
	settled(t, d, 2, nought)
	reads(t, d, 0, nought)
	state(t, d, false, 3)
	d.Write(1, nought)
	reads(t, d, 1, nought)
	settled(t, d, 1, mixed(2))
	state(t, d, false, 4)
}

// P3.1: a write that changes nothing is an unsettled one too.
func TestSameAgain(t *testing.T) {
	d := New(1)
	d.Write(0, nought)
	d.Write(0, nought)
	state(t, d, false, 2)
	d.Barrier()
	state(t, d, false, 0)
	d.Barrier()
	state(t, d, false, 0)
}

// P3.1: a block that there isn't is ErrArg, dead or not; one that there is, of a dead device, is ErrDead, and Settled answers all the same.
func TestReadWrong(t *testing.T) {
	d := New(2)
	d.Write(0, mixed(9))
	d.Barrier()
	for _, at := range wrong {
		refuses(t, d, at, api.ErrArg)
		settled(t, d, at, "")
	}
	d.Write(1, mixed(8))
	d.Fuse(0)
	reads(t, d, 0, mixed(9))
	is(t, "Barrier", d.Barrier(), api.ErrDead)
	state(t, d, true, 1)
	for _, at := range wrong {
		refuses(t, d, at, api.ErrArg)
		settled(t, d, at, "")
	}
	refuses(t, d, 0, api.ErrDead)
	refuses(t, d, 1, api.ErrDead)
	settled(t, d, 0, mixed(9))
	settled(t, d, 1, nought)
	if d.Blocks() != 2 {
		t.Errorf("a dead device has %d blocks", d.Blocks())
	}
}

// P3.2: a block that there isn't, and bytes that are not as many as a block has, are ErrArg, and change nothing, not even the fuse.
func TestWriteWrong(t *testing.T) {
	sizes := []int{0, 1, api.BlockSize - 1, api.BlockSize + 1, 2 * api.BlockSize, 1 << 16}
	d := New(2)
	d.Write(0, mixed(3))
	d.Fuse(1)
	for _, at := range wrong {
		is(t, "Write to no block", d.Write(at, mixed(4)), api.ErrArg)
		is(t, "Write of nothing to no block", d.Write(at, ""), api.ErrArg)
	}
	for _, n := range sizes {
		is(t, "Write of a wrong size", d.Write(0, strings.Repeat("x", n)), api.ErrArg)
	}
	state(t, d, false, 1)
	reads(t, d, 0, mixed(3))
	is(t, "Write", d.Write(1, mixed(5)), api.OK)
	// The fuse is at 0 now: a wrong write is still ErrArg, and doesn't let the device die.
	for _, n := range sizes {
		is(t, "Write of a wrong size", d.Write(1, strings.Repeat("x", n)), api.ErrArg)
	}
	is(t, "Write to no block", d.Write(2, mixed(4)), api.ErrArg)
	state(t, d, false, 2)
	is(t, "Write", d.Write(1, mixed(6)), api.ErrDead)
	// Nor is a dead device's error told ahead of it.
	is(t, "Write to no block", d.Write(-1, mixed(4)), api.ErrArg)
	is(t, "Write of a wrong size", d.Write(0, "x"), api.ErrArg)
	state(t, d, true, 2)
}

// P3.2, P3.7: with a fuse of n, n writes and barriers in any order succeed, and the next one, be it which it may, has no effect.
func TestFuse(t *testing.T) {
	for _, n := range []int{0, 1, 2, 3, 40, 200} {
		for _, last := range []string{"write", "barrier"} {
			d := New(2)
			d.Write(0, mixed(1))
			d.Barrier()
			d.Fuse(n)
			unsettled := 0
			for i := range n {
				if i%3 == 1 {
					is(t, "Barrier", d.Barrier(), api.OK)
					unsettled = 0
				} else {
					is(t, "Write", d.Write(1, mixed(i)), api.OK)
					reads(t, d, 1, mixed(i))
					unsettled++
				}
				state(t, d, false, unsettled)
			}
			before := d.Settled(1)
			if last == "write" {
				is(t, "Write", d.Write(0, full('x')), api.ErrDead)
			} else {
				is(t, "Barrier", d.Barrier(), api.ErrDead)
			}
			state(t, d, true, unsettled)
			settled(t, d, 0, mixed(1))
			settled(t, d, 1, before)
			refuses(t, d, 0, api.ErrDead)
			is(t, "Write when dead", d.Write(0, full('x')), api.ErrDead)
			is(t, "Barrier when dead", d.Barrier(), api.ErrDead)
			state(t, d, true, unsettled)
			settled(t, d, 0, mixed(1))
			settled(t, d, 1, before)
		}
	}
}

// P3.2: the fuse is counted by nothing but writes and barriers, and kills nothing until the next of them.
func TestFuseWaits(t *testing.T) {
	d := New(2)
	d.Fuse(1)
	for range 5 {
		reads(t, d, 0, nought)
		settled(t, d, 0, nought)
		state(t, d, false, 0)
		refuses(t, d, 2, api.ErrArg)
	}
	is(t, "Write", d.Write(0, mixed(1)), api.OK)
	for range 5 {
		reads(t, d, 0, mixed(1))
		state(t, d, false, 1)
	}
	is(t, "Write", d.Write(0, mixed(2)), api.ErrDead)
	state(t, d, true, 1)
}

// P3.2: a fuse is set anew, and removed by less than 0, even when it has run down to 0.
func TestFuseAnew(t *testing.T) {
	for _, none := range []int{-1, -2, math.MinInt} {
		d := New(1)
		d.Fuse(none)
		for i := range 300 {
			is(t, "Write", d.Write(0, mixed(i)), api.OK)
		}
		d.Fuse(2)
		d.Write(0, mixed(1))
		d.Fuse(none)
		for i := range 300 {
			is(t, "Write", d.Write(0, mixed(i)), api.OK)
			is(t, "Barrier", d.Barrier(), api.OK)
		}
		d.Fuse(1)
		is(t, "Barrier", d.Barrier(), api.OK)
		d.Fuse(none)
		is(t, "Barrier", d.Barrier(), api.OK)
	}
	d := New(1)
	d.Fuse(0)
	d.Fuse(2)
	is(t, "Write", d.Write(0, mixed(1)), api.OK)
	d.Fuse(1)
	is(t, "Write", d.Write(0, mixed(1)), api.OK)
	is(t, "Write", d.Write(0, mixed(1)), api.ErrDead)
	e := New(1)
	e.Fuse(math.MaxInt)
	for i := range 300 {
		is(t, "Write", e.Write(0, mixed(i)), api.OK)
	}
}

// P3.2: a fuse that is set on a dead device, or removed from it, doesn't let it live, and a crash removes it.
func TestFuseDead(t *testing.T) {
	for _, n := range []int{-1, 0, 1, 5, math.MaxInt, math.MinInt} {
		d := dying(t)
		d.Fuse(n)
		state(t, d, true, 1)
		is(t, "Write", d.Write(0, mixed(3)), api.ErrDead)
		is(t, "Barrier", d.Barrier(), api.ErrDead)
		refuses(t, d, 0, api.ErrDead)
		state(t, d, true, 1)
		d.Crash(all)
		state(t, d, false, 0)
		reads(t, d, 0, mixed(1))
		for i := range 20 {
			is(t, "Write", d.Write(1, mixed(i)), api.OK)
			is(t, "Barrier", d.Barrier(), api.OK)
		}
	}
}

// P3.3: the i-th unsettled write is kept if bit i is 1, and what is kept is settled.
func TestCrash(t *testing.T) {
	for keep := range uint64(8) {
		d := New(3)
		for at := range 3 {
			d.Write(at, full('o'))
		}
		d.Barrier()
		for i, at := range []int{2, 0, 1} {
			d.Write(at, mixed(i))
		}
		d.Crash(keep | 1<<3 | 1<<40)
		state(t, d, false, 0)
		for i, at := range []int{2, 0, 1} {
			want := full('o')
			if keep>>i&1 == 1 {
				want = mixed(i)
			}
			reads(t, d, at, want)
			settled(t, d, at, want)
		}
		d.Crash(0)
		d.Crash(all)
		state(t, d, false, 0)
		for i, at := range []int{2, 0, 1} {
			if keep>>i&1 == 1 {
				reads(t, d, at, mixed(i))
			} else {
				reads(t, d, at, full('o'))
			}
		}
	}
}

// P3.3: the example of the chapter, and the other one.
func TestExamples(t *testing.T) {
	d := New(2)
	d.Write(0, full('a'))
	d.Write(1, full('b'))
	d.Crash(2)
	reads(t, d, 0, nought)
	reads(t, d, 1, full('b'))
	d = New(2)
	d.Fuse(1)
	is(t, "Write", d.Write(0, full('a')), api.OK)
	is(t, "Barrier", d.Barrier(), api.ErrDead)
	refuses(t, d, 0, api.ErrDead)
}

// P3.3: of several writes of one block the last that is kept is there, as if the others had never happened.
func TestCrashOneBlock(t *testing.T) {
	for keep := range uint64(16) {
		d := New(1)
		d.Write(0, full('o'))
		d.Barrier()
		want := full('o')
		for i := range 4 {
			d.Write(0, mixed(i))
			if keep>>i&1 == 1 {
				want = mixed(i)
			}
		}
		d.Crash(keep)
		state(t, d, false, 0)
		reads(t, d, 0, want)
		settled(t, d, 0, want)
	}
}

// P3.3: a crash with nothing unsettled changes no block, whatever is kept.
func TestCrashSettled(t *testing.T) {
	for _, keep := range []uint64{0, 1, 1 << 63, all} {
		d := New(2)
		d.Crash(keep)
		reads(t, d, 0, nought)
		d.Write(1, mixed(1))
		d.Barrier()
		d.Crash(keep)
		state(t, d, false, 0)
		reads(t, d, 1, mixed(1))
		reads(t, d, 0, nought)
		if d.Blocks() != 2 {
			t.Errorf("%d blocks are left", d.Blocks())
		}
	}
}

// P3.3: behind 64 writes the bits begin again.
func TestCrashMany(t *testing.T) {
	const writes = 200
	for _, keep := range []uint64{0, 1, 2, 1 << 63, 1 << 36, 1<<63 | 1, 0xaaaaaaaaaaaaaaaa, 0x0123456789abcdef, all - 1, all} {
		d := New(writes)
		for at := range writes {
			d.Write(at, full('o'))
		}
		d.Barrier()
		for i := range writes {
			d.Write(writes-1-i, mixed(i))
		}
		state(t, d, false, writes)
		d.Crash(keep)
		state(t, d, false, 0)
		for i := range writes {
			want := full('o')
			if keep&(1<<(i%64)) != 0 {
				want = mixed(i)
			}
			reads(t, d, writes-1-i, want)
		}
	}
}

// P3.3: bits are counted anew from each barrier and each crash on.
func TestCrashCounts(t *testing.T) {
	d := New(2)
	d.Write(0, mixed(1))
	d.Barrier()
	d.Write(0, mixed(2))
	d.Write(1, mixed(3))
	d.Crash(1)
	reads(t, d, 0, mixed(2))
	reads(t, d, 1, nought)
	d.Write(1, mixed(4))
	d.Write(0, mixed(5))
	d.Crash(1)
	reads(t, d, 0, mixed(2))
	reads(t, d, 1, mixed(4))
}

// P3.3: a dead device lives again behind a crash, without a fuse; what was unsettled when it died is kept or not, what it refused is not.
func TestCrashDead(t *testing.T) {
	for _, keep := range []uint64{0, 1, 2, 3, all} {
		d := dying(t)
		d.Crash(keep)
		state(t, d, false, 0)
		want := nought
		if keep&1 == 1 {
			want = mixed(1)
		}
		reads(t, d, 0, want)
		reads(t, d, 1, nought)
		for i := range 300 {
			is(t, "Write", d.Write(1, mixed(i)), api.OK)
		}
		is(t, "Barrier", d.Barrier(), api.OK)
		reads(t, d, 1, mixed(299))
	}
}

// P3.3: a crash of a device that lives takes its fuse away, also one that has run down to 0.
func TestCrashFuse(t *testing.T) {
	for _, n := range []int{0, 1, 3} {
		d := New(1)
		d.Fuse(n)
		for range n {
			is(t, "Barrier", d.Barrier(), api.OK)
		}
		d.Crash(0)
		for i := range 10 {
			is(t, "Write", d.Write(0, mixed(i)), api.OK)
			is(t, "Barrier", d.Barrier(), api.OK)
		}
		d.Fuse(n + 1)
		d.Crash(all)
		for range 10 {
			is(t, "Barrier", d.Barrier(), api.OK)
		}
	}
}

// P3.3: what a nil device answers.
func TestNil(t *testing.T) {
	var d *Device
	for range 2 {
		state(t, d, true, 0)
		if d.Blocks() != 0 {
			t.Errorf("a nil device has %d blocks", d.Blocks())
		}
		for _, at := range append([]int{0, 1}, wrong...) {
			refuses(t, d, at, api.ErrDead)
			settled(t, d, at, "")
			is(t, "Write", d.Write(at, mixed(1)), api.ErrDead)
			is(t, "Write of a wrong size", d.Write(at, "x"), api.ErrDead)
		}
		is(t, "Barrier", d.Barrier(), api.ErrDead)
		for _, n := range []int{-1, 0, 1, math.MaxInt, math.MinInt} {
			d.Fuse(n)
			d.Crash(uint64(n))
		}
	}
}

// P3.6: nothing that is done to one device is seen in another.
func TestApart(t *testing.T) {
	d, e := New(2), New(2)
	d.Write(0, mixed(1))
	d.Barrier()
	d.Write(1, mixed(2))
	d.Fuse(0)
	d.Barrier()
	state(t, e, false, 0)
	reads(t, e, 0, nought)
	reads(t, e, 1, nought)
	is(t, "Write", e.Write(0, mixed(3)), api.OK)
	settled(t, d, 0, mixed(1))
	state(t, d, true, 1)
}

// shadow is what a device is to be, told another way: each block's whole past since it was settled.
type shadow struct {
	pasts  [][]string // of each block: first as it is settled, then as each write left it
	order  []past
	fuse   int
	fused  bool
	dead   bool
	counts int // how many writes and barriers succeeded since the fuse was set
}

// past is one write: which block, and which of its past.
type past struct{ at, n int }

// grown is a shadow of noughts.
func grown(blocks int) *shadow {
	s := &shadow{}
	for range blocks {
		s.pasts = append(s.pasts, []string{nought})
	}
	return s
}

// step says whether a write or a barrier succeeds.
func (s *shadow) step() bool {
	s.dead = s.dead || s.fused && s.counts >= s.fuse
	if !s.dead {
		s.counts++
	}
	return !s.dead
}

// write is a write of a block that there is.
func (s *shadow) write(at int, b string) api.Errno {
	if !s.step() {
		return api.ErrDead
	}
	s.order = append(s.order, past{at, len(s.pasts[at])})
	s.pasts[at] = append(s.pasts[at], b)
	return api.OK
}

// barrier settles all.
func (s *shadow) barrier() api.Errno {
	if !s.step() {
		return api.ErrDead
	}
	s.crash(all)
	return api.OK
}

// crash keeps some of it.
func (s *shadow) crash(keep uint64) {
	left := make([]string, len(s.pasts))
	for at, l := range s.pasts {
		left[at] = l[0]
	}
	for i, p := range s.order {
		if keep&(1<<(i%64)) != 0 {
			left[p.at] = s.pasts[p.at][p.n]
		}
	}
	for at, b := range left {
		s.pasts[at] = []string{b}
	}
	s.order = nil
}

// same fails unless the device is as its shadow.
func (s *shadow) same(t *testing.T, d *Device) {
	t.Helper()
	state(t, d, s.dead, len(s.order))
	for at, l := range s.pasts {
		settled(t, d, at, l[0])
		if s.dead {
			refuses(t, d, at, api.ErrDead)
		} else {
			reads(t, d, at, l[len(l)-1])
		}
	}
}

// P3.4, P3.5, P3.6, P3.7 (and P3.1 to P3.3): over many steps of all kinds, blocks are what the promises say, and behind a crash each is as it was settled or as some later write left it.
func TestLongRun(t *testing.T) {
	for seed := range int64(60) {
		r := rand.New(rand.NewSource(seed))
		blocks := 1 + r.Intn(5)
		d, s := New(blocks), grown(blocks)
		for step := range 400 {
			switch k := r.Intn(40); {
			case k < 26:
				at, b := r.Intn(blocks), mixed(r.Intn(256))
				is(t, "Write", d.Write(at, b), s.write(at, b))
			case k < 29:
				is(t, "Barrier", d.Barrier(), s.barrier())
			case k < 32:
				n := r.Intn(30) - 3
				d.Fuse(n)
				s.fuse, s.fused, s.counts = n, n >= 0, 0
			case k < 34 || s.dead && k < 38:
				keep := r.Uint64()
				allowed := s.pasts
				d.Crash(keep)
				s.crash(keep)
				s.dead, s.fused = false, false
				for at, l := range allowed {
					if b, _ := d.Read(at); !within(b, l) {
						t.Errorf("behind a crash block %d is none of what it was", at)
					}
				}
			}
			s.same(t, d)
			if t.Failed() {
				t.Fatalf("seed %d, step %d", seed, step)
			}
		}
	}
}

// within says whether bytes are among others.
func within(b string, l []string) bool {
	for _, x := range l {
		if x == b {
			return true
		}
	}
	return false
}

// P3.4: what a barrier settled is there behind every crash, dead or not, until it is overwritten.
func TestBarrierLasts(t *testing.T) {
	d := New(2)
	d.Write(0, mixed(1))
	d.Write(0, mixed(2))
	d.Write(1, mixed(3))
	d.Barrier()
	for i, keep := range []uint64{0, all, 1, 2, 0} {
		d.Write(1, mixed(10+i))
		d.Fuse(i % 2)
		d.Barrier()
		d.Barrier()
		d.Crash(keep)
		reads(t, d, 0, mixed(2))
		settled(t, d, 0, mixed(2))
	}
}

// Common rules 4 and 6: what was read stays as it was, and the same calls have the same results.
func TestResults(t *testing.T) {
	d := New(1)
	d.Write(0, mixed(1))
	a, _ := d.Read(0)
	d.Barrier()
	b, c := d.Settled(0), d.Settled(0)
	d.Write(0, mixed(2))
	d.Barrier()
	if a != mixed(1) || b != mixed(1) || c != mixed(1) {
		t.Error("what was read has changed")
	}
}
