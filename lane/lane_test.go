package lane

import (
	"fmt"
	"math"
	"math/rand"
	"testing"

	"lamella/api"
)

// top is the greatest number of a life, a boot or a request.
const top = math.MaxUint32

// numbers are lives, boots and requests: the least, the greatest, some at which a narrower or a signed number would wrap round, and neighbours.
var numbers = []uint32{0, 1, 2, 3, 4, 5, 6, 7, 0xff, 0x100, 0xffff, 0x10000, 0x7ffffffe, 0x7fffffff, 0x80000000, 0x80000001, top - 2, top - 1, top}

// ints are counts of ticks: the least, the greatest, those at which something changes, and neighbours.
var ints = []int{math.MinInt, math.MinInt + 1, math.MinInt32 - 1, math.MinInt32, -17, -16, -9, -8, -7, -2, -1, 0, 1, 2, 3, 4, 5, 6, 7, 8, 9, 15, 16, 17, math.MaxInt32, math.MaxInt32 + 1, math.MaxInt/2 - 1, math.MaxInt / 2, math.MaxInt/2 + 1, math.MaxInt - 1, math.MaxInt}

// bodies are of requests, and answers.
var bodies = []string{"", "a", "\x00", "\xff\xfe", "hello", string(make([]byte, 300))}

// seat is a seat whose last answer tells its numbers.
func seat(life, seq uint32) api.Seat {
	return api.Seat{Life: life, Seq: seq, Reply: fmt.Sprintf("the answer to %d of %d", seq, life)}
}

// idle is a line with nothing outstanding.
func idle(life, boot, seq uint32) api.Line {
	return api.Line{Life: life, Boot: boot, Seq: seq}
}

// out is a line with a request that is outstanding.
func out(life, boot, seq uint32, body string, left, gap int) api.Line {
	return api.Line{Life: life, Boot: boot, Seq: seq, Out: true, Body: body, Left: left, Gap: gap}
}

// asked is a line behind an Ask that can be done.
func asked(t *testing.T, l api.Line, body string) api.Line {
	t.Helper()
	n, err := Ask(l, body)
	if err != api.OK {
		t.Fatalf("Ask(%#v, %q): error %d", l, body, err)
	}
	return n
}

// judged is what P8.1 says of a request, one sentence after the other, in numbers that can't wrap round.
func judged(s api.Seat, life, seq uint32) int {
	last, next := int64(s.Seq), int64(seq)
	if life < s.Life || life == 0 || seq == 0 {
		return api.Old
	}
	if life > s.Life && seq == 1 {
		return api.New
	}
	if life > s.Life {
		return api.Early
	}
	if next == last {
		return api.Again
	}
	if next == last+1 {
		return api.New
	}
	if next < last {
		return api.Old
	}
	return api.Early
}

// P8.1

// judgements are requests, and what they are of a seat.
var judgements = []struct {
	s         api.Seat
	life, seq uint32
	want      int
}{
	// The chapter's examples.
	{seat(1, 5), 1, 6, api.New}, {seat(1, 5), 1, 5, api.Again}, {seat(1, 5), 1, 4, api.Old}, {seat(1, 5), 1, 7, api.Early}, {seat(1, 5), 2, 1, api.New},
	// A seat that is all zero has heard nothing.
	{api.Seat{}, 1, 1, api.New}, {api.Seat{}, top, 1, api.New}, {api.Seat{}, 1, 2, api.Early}, {api.Seat{}, 1, top, api.Early}, {api.Seat{}, top, top, api.Early},
	{api.Seat{}, 0, 0, api.Old}, {api.Seat{}, 0, 1, api.Old}, {api.Seat{}, 0, top, api.Old}, {api.Seat{}, 1, 0, api.Old}, {api.Seat{}, top, 0, api.Old},
	// A life that is 0, also of a seat of that life.
	{seat(0, 5), 0, 6, api.Old}, {seat(0, 5), 0, 5, api.Old}, {seat(0, 5), 0, 7, api.Old}, {seat(0, 5), 1, 1, api.New}, {seat(0, 5), 1, 6, api.Early}, {seat(0, 5), 1, 5, api.Early}, {seat(0, top), 0, top, api.Old}, {seat(3, 5), 0, 6, api.Old}, {seat(3, 5), 0, 1, api.Old},
	// A number that is 0, also of a seat of that number and of the greatest one.
	{seat(3, 0), 3, 0, api.Old}, {seat(3, top), 3, 0, api.Old}, {seat(3, 5), 3, 0, api.Old}, {seat(3, 5), 4, 0, api.Old}, {seat(3, 5), top, 0, api.Old}, {seat(top, top), top, 0, api.Old}, {seat(3, 0), 3, 1, api.New}, {seat(3, 0), 3, 2, api.Early},
	// A life that is less.
	{seat(3, 5), 2, 6, api.Old}, {seat(3, 5), 2, 5, api.Old}, {seat(3, 5), 2, 1, api.Old}, {seat(3, 5), 1, top, api.Old}, {seat(3, 0), 2, 1, api.Old}, {seat(top, 5), top - 1, 6, api.Old}, {seat(top, 5), top - 1, 1, api.Old}, {seat(0x80000000, 5), 0x7fffffff, 1, api.Old},
	// The life of the seat.
	{seat(3, 5), 3, 1, api.Old}, {seat(3, 5), 3, 4, api.Old}, {seat(3, 5), 3, 5, api.Again}, {seat(3, 5), 3, 6, api.New}, {seat(3, 5), 3, 7, api.Early}, {seat(3, 5), 3, top, api.Early}, {seat(top, 1), top, 2, api.New}, {seat(top, 1), top, 1, api.Again},
	// A greater life: its first number and later ones, whatever the seat's number is.
	{seat(3, 5), 4, 1, api.New}, {seat(3, 5), 4, 2, api.Early}, {seat(3, 5), 4, 5, api.Early}, {seat(3, 5), 4, 6, api.Early}, {seat(3, 5), 4, top, api.Early}, {seat(3, 0), 4, 1, api.New}, {seat(3, 1), 4, 1, api.New}, {seat(3, 1), 4, 2, api.Early}, {seat(3, top), 4, 1, api.New}, {seat(3, top), 4, top, api.Early}, {seat(3, 5), top, 1, api.New}, {seat(0x7fffffff, 5), 0x80000000, 1, api.New}, {seat(0x7fffffff, 5), 0x80000000, 6, api.Early},
	// The greatest numbers.
	{seat(3, top), 3, top, api.Again}, {seat(3, top), 3, top - 1, api.Old}, {seat(3, top), 3, 1, api.Old}, {seat(3, top), 3, 2, api.Old}, {seat(3, top-1), 3, top, api.New}, {seat(3, top-1), 3, top - 1, api.Again}, {seat(3, top-1), 3, 1, api.Old}, {seat(3, top-2), 3, top, api.Early}, {seat(3, top-2), 3, top - 1, api.New},
	{seat(3, 0x7fffffff), 3, 0x80000000, api.New}, {seat(3, 0x80000000), 3, 0x7fffffff, api.Old}, {seat(3, 1), 3, 0x80000000, api.Early}, {seat(3, 1), 3, 0x80000002, api.Early}, {seat(top, top), top, top, api.Again},
}

func TestJudge(t *testing.T) {
	for _, x := range judgements {
		if k := Judge(x.s, x.life, x.seq); k != x.want {
			t.Errorf("Judge(%#v, %d, %d) = %d, want %d", x.s, x.life, x.seq, k, x.want)
		}
	}
}

// everyRequest visits seats with each of the numbers, and requests with each of them.
func everyRequest(visit func(s api.Seat, life, seq uint32)) {
	for _, sl := range numbers {
		for _, sq := range numbers {
			for _, life := range numbers {
				for _, seq := range numbers {
					visit(seat(sl, sq), life, seq)
				}
			}
		}
	}
}

func TestJudgeOfAllNumbers(t *testing.T) {
	everyRequest(func(s api.Seat, life, seq uint32) {
		if k := Judge(s, life, seq); k != judged(s, life, seq) {
			t.Fatalf("Judge(%#v, %d, %d) = %d, want %d", s, life, seq, k, judged(s, life, seq))
		}
	})
}

func TestJudgeOfRandomNumbers(t *testing.T) {
	r := rand.New(rand.NewSource(1))
	for range 200000 {
		s := seat(r.Uint32(), r.Uint32())
		life, seq := s.Life, s.Seq
		if r.Intn(2) == 0 {
			life += uint32(r.Intn(5)) - 2
		}
		if r.Intn(3) == 0 {
			seq = r.Uint32()
		} else {
			seq += uint32(r.Intn(7)) - 3
		}
		if k := Judge(s, life, seq); k != judged(s, life, seq) {
			t.Fatalf("Judge(%#v, %d, %d) = %d, want %d", s, life, seq, k, judged(s, life, seq))
		}
	}
}

func TestJudgeDoesNotAskTheReply(t *testing.T) {
	for _, x := range judgements {
		for _, reply := range bodies {
			x.s.Reply = reply
			if k := Judge(x.s, x.life, x.seq); k != x.want {
				t.Errorf("Judge(%#v, %d, %d) = %d, want %d", x.s, x.life, x.seq, k, x.want)
			}
		}
	}
}

func TestDone(t *testing.T) {
	for _, x := range judgements {
		for _, reply := range bodies {
			want := x.s
			if x.want == api.New {
				want = api.Seat{Life: x.life, Seq: x.seq, Reply: reply}
			}
			if s := Done(x.s, x.life, x.seq, reply); s != want {
				t.Errorf("Done(%#v, %d, %d, %q) = %#v, want %#v", x.s, x.life, x.seq, reply, s, want)
			}
		}
	}
}

func TestDoneOfAllNumbers(t *testing.T) {
	everyRequest(func(s api.Seat, life, seq uint32) {
		want := s
		if judged(s, life, seq) == api.New {
			want = api.Seat{Life: life, Seq: seq, Reply: "new"}
		}
		if n := Done(s, life, seq, "new"); n != want {
			t.Fatalf("Done(%#v, %d, %d) = %#v, want %#v", s, life, seq, n, want)
		}
	})
}

func TestWhatIsDoneIsAgain(t *testing.T) {
	everyRequest(func(s api.Seat, life, seq uint32) {
		if judged(s, life, seq) != api.New {
			return
		}
		n := Done(s, life, seq, "x")
		if k := Judge(n, life, seq); k != api.Again {
			t.Fatalf("behind Done(%#v, %d, %d), Judge of the same request = %d", s, life, seq, k)
		}
		if again := Done(n, life, seq, "another"); again != n {
			t.Fatalf("behind Done(%#v, %d, %d), Done of the same request = %#v", s, life, seq, again)
		}
	})
}

// P8.2

func TestAsk(t *testing.T) {
	for _, life := range numbers {
		for _, boot := range numbers {
			for _, seq := range numbers {
				for _, body := range bodies {
					if seq == top {
						continue
					}
					l, err := Ask(idle(life, boot, seq), body)
					if want := out(life, boot, seq+1, body, 1, 1); l != want || err != api.OK {
						t.Fatalf("Ask of a request %q, of {%d, %d, %d} = %#v, %d, want %#v", body, life, boot, seq, l, err, want)
					}
				}
			}
		}
	}
}

func TestAskAtTheGreatestNumbers(t *testing.T) {
	l, err := Ask(idle(3, 4, top-1), "last")
	if l != out(3, 4, top, "last", 1, 1) || err != api.OK {
		t.Errorf("Ask at the number 2^32 - 2 = %#v, %d", l, err)
	}
	for _, body := range bodies {
		if l, err := Ask(idle(3, 4, top), body); l != (api.Line{}) || err != api.ErrMany {
			t.Errorf("Ask of %q at the number 2^32 - 1 = %#v, %d, want ErrMany", body, l, err)
		}
	}
}

func TestAskWhileARequestIsOutstanding(t *testing.T) {
	for _, seq := range numbers {
		for _, body := range bodies {
			l := out(3, 4, seq, "first", 2, 4)
			if n, err := Ask(l, body); n != (api.Line{}) || err != api.ErrBusy {
				t.Errorf("Ask(%#v, %q) = %#v, %d, want ErrBusy", l, body, n, err)
			}
		}
	}
	for _, x := range ints {
		l := out(0, 0, 0, "", x, x)
		if n, err := Ask(l, ""); n != (api.Line{}) || err != api.ErrBusy {
			t.Errorf("Ask(%#v) = %#v, %d, want ErrBusy", l, n, err)
		}
	}
}

func TestAskOfALineThatNoAskHasMade(t *testing.T) {
	for _, left := range ints {
		for _, gap := range ints {
			l := api.Line{Life: 7, Boot: 8, Seq: 9, Body: "left over", Left: left, Gap: gap}
			if n, err := Ask(l, "new"); n != out(7, 8, 10, "new", 1, 1) || err != api.OK {
				t.Fatalf("Ask(%#v) = %#v, %d", l, n, err)
			}
			l.Seq = top
			if n, err := Ask(l, "new"); n != (api.Line{}) || err != api.ErrMany {
				t.Fatalf("Ask(%#v) = %#v, %d, want ErrMany", l, n, err)
			}
		}
	}
}

func TestTickOfNothingOutstanding(t *testing.T) {
	lines := []api.Line{{}, idle(1, 1, 0), idle(3, 4, 5), idle(top, top, top), {Life: 1, Seq: 2, Body: "left over"}}
	for _, left := range ints {
		for _, gap := range ints {
			lines = append(lines, api.Line{Life: 3, Boot: 4, Seq: 5, Left: left, Gap: gap})
		}
	}
	for _, l := range lines {
		if n, ok := Tick(l); n != l || ok {
			t.Fatalf("Tick(%#v) = %#v, %v", l, n, ok)
		}
	}
}

func TestTickThatSendsNot(t *testing.T) {
	for _, gap := range ints {
		for _, left := range ints {
			if left <= 1 {
				continue
			}
			l := out(3, 4, 5, "body", left, gap)
			want := out(3, 4, 5, "body", left-1, gap)
			if n, ok := Tick(l); n != want || ok {
				t.Fatalf("Tick(%#v) = %#v, %v, want %#v, false", l, n, ok, want)
			}
		}
	}
}

func TestTickThatSends(t *testing.T) {
	for _, left := range ints {
		if left > 1 {
			continue
		}
		for _, x := range []struct{ gap, want int }{
			{1, 2}, {2, 4}, {3, 6}, {4, 8}, {5, 8}, {6, 8}, {7, 8}, {8, 8},
			{0, 2}, {-1, 2}, {-2, 2}, {-4, 2}, {-8, 2}, {math.MinInt32, 2}, {math.MinInt + 1, 2}, {math.MinInt, 2}, {math.MinInt / 2, 2}, {math.MinInt/2 - 1, 2},
			{9, 8}, {10, 8}, {16, 8}, {256, 8}, {math.MaxInt32, 8}, {math.MaxInt / 2, 8}, {math.MaxInt/2 + 1, 8}, {math.MaxInt - 1, 8}, {math.MaxInt, 8},
		} {
			for _, seq := range []uint32{0, 5, top} {
				l := out(3, 4, seq, "body", left, x.gap)
				want := out(3, 4, seq, "body", x.want, x.want)
				if n, ok := Tick(l); n != want || !ok {
					t.Fatalf("Tick(%#v) = %#v, %v, want %#v, true", l, n, ok, want)
				}
			}
		}
	}
}

// sendings are the ticks, of so many, at which a line sends, and the line behind them.
func sendings(l api.Line, ticks int) ([]int, api.Line) {
	var at []int
	for i := range ticks {
		var ok bool
		if l, ok = Tick(l); ok {
			at = append(at, i+1)
		}
	}
	return at, l
}

func TestTicksAfterAsk(t *testing.T) {
	for _, seq := range []uint32{0, 1, 77, top - 1} {
		for _, body := range bodies {
			at, l := sendings(asked(t, idle(2, 3, seq), body), 40)
			if got, want := fmt.Sprint(at), "[1 3 7 15 23 31 39]"; got != want {
				t.Errorf("a request is sent again at the ticks %s, want %s", got, want)
			}
			if want := out(2, 3, seq+1, body, 7, 8); l != want {
				t.Errorf("behind 40 ticks the line is %#v, want %#v", l, want)
			}
		}
	}
}

func TestTheGapBeginsAnewWithEachRequest(t *testing.T) {
	l := idle(2, 3, 0)
	for seq := uint32(1); seq < 5; seq++ {
		var at []int
		at, l = sendings(asked(t, l, "body"), 30)
		if got, want := fmt.Sprint(at), "[1 3 7 15 23]"; got != want {
			t.Errorf("request %d is sent again at the ticks %s, want %s", seq, got, want)
		}
		var k int
		if l, k = Hear(l, 2, 3, 3, seq); k != api.Answer {
			t.Fatalf("the answer to request %d is heard as %d", seq, k)
		}
		if at, _ := sendings(l, 30); len(at) != 0 {
			t.Errorf("behind the answer to request %d, it is sent at the ticks %v", seq, at)
		}
	}
}

// P8.3

func TestHearAnAnswer(t *testing.T) {
	for _, life := range numbers {
		for _, boot := range numbers {
			for _, seq := range numbers {
				for _, body := range bodies {
					l := out(life, boot, seq, body, 3, 4)
					if n, k := Hear(l, life, boot, boot, seq); n != idle(life, boot, seq) || k != api.Answer {
						t.Fatalf("Hear(%#v) of its answer = %#v, %d", l, n, k)
					}
				}
			}
		}
	}
}

func TestHearOfAnotherBoot(t *testing.T) {
	for _, life := range numbers {
		for _, seq := range numbers {
			for _, was := range numbers {
				for _, is := range numbers {
					if is == was {
						continue
					}
					l := out(life, was, seq, "body", 3, 4)
					if n, k := Hear(l, life, is, was, seq); n != idle(life, is, 0) || k != api.Reboot {
						t.Fatalf("Hear(%#v) of the boot %d = %#v, %d", l, is, n, k)
					}
				}
			}
		}
	}
}

func TestHearWhatIsNotForTheRequest(t *testing.T) {
	for _, a := range numbers {
		for _, b := range numbers {
			if a == b {
				continue
			}
			for _, boot := range []uint32{0, 4, 5, a, b, top} {
				for _, x := range []struct {
					what             string
					l                api.Line
					life, asked, seq uint32
				}{
					{"another life", out(a, 4, 5, "body", 3, 4), b, 4, 5},
					{"another boot asked", out(3, a, 5, "body", 3, 4), 3, b, 5},
					{"another number", out(3, 4, a, "body", 3, 4), 3, 4, b},
					{"another life and boot", out(a, a, 5, "body", 3, 4), b, b, 5},
					{"another life and number", out(a, 4, a, "", 1, 1), b, 4, b},
					{"another boot and number", out(3, a, a, "", 1, 1), 3, b, b},
					{"nothing the same", out(a, a, a, "", 8, 8), b, b, b},
				} {
					if n, k := Hear(x.l, x.life, boot, x.asked, x.seq); n != x.l || k != api.Nothing {
						t.Fatalf("%s: Hear(%#v, %d, %d, %d, %d) = %#v, %d", x.what, x.l, x.life, boot, x.asked, x.seq, n, k)
					}
				}
			}
		}
	}
}

func TestHearWithNothingOutstanding(t *testing.T) {
	for _, a := range numbers {
		for _, boot := range numbers {
			for _, l := range []api.Line{idle(a, a, a), idle(3, a, 5), {Life: a, Boot: a, Seq: a, Body: "left over", Left: math.MinInt, Gap: math.MaxInt}} {
				if n, k := Hear(l, l.Life, boot, l.Boot, l.Seq); n != l || k != api.Nothing {
					t.Fatalf("Hear(%#v) of the boot %d = %#v, %d", l, boot, n, k)
				}
			}
		}
	}
}

func TestHearTwice(t *testing.T) {
	l := asked(t, idle(3, 4, 9), "body")
	l, k := Hear(l, 3, 4, 4, 10)
	if l != idle(3, 4, 10) || k != api.Answer {
		t.Fatalf("the first time, the answer makes %#v, %d", l, k)
	}
	if n, k := Hear(l, 3, 4, 4, 10); n != l || k != api.Nothing {
		t.Errorf("the second time, the answer makes %#v, %d", n, k)
	}
	l = asked(t, l, "next")
	if n, k := Hear(l, 3, 4, 4, 10); n != l || k != api.Nothing {
		t.Errorf("behind the next request, the answer makes %#v, %d", n, k)
	}
	if n, k := Hear(l, 3, 4, 4, 11); n != idle(3, 4, 11) || k != api.Answer {
		t.Errorf("behind the next request, its answer makes %#v, %d", n, k)
	}
}

func TestHearARebootTwice(t *testing.T) {
	l := asked(t, idle(3, 4, 9), "body")
	l, k := Hear(l, 3, 6, 4, 10)
	if l != idle(3, 6, 0) || k != api.Reboot {
		t.Fatalf("the first time, the reply makes %#v, %d", l, k)
	}
	if n, k := Hear(l, 3, 6, 4, 10); n != l || k != api.Nothing {
		t.Errorf("the second time, the reply makes %#v, %d", n, k)
	}
	for seq := uint32(1); seq < 12; seq++ {
		l = asked(t, l, "again")
		if want := out(3, 6, seq, "again", 1, 1); l != want {
			t.Fatalf("the request behind the reboot is %#v, want %#v", l, want)
		}
		if n, k := Hear(l, 3, 6, 4, 10); n != l || k != api.Nothing {
			t.Errorf("behind the next request, the reply makes %#v, %d", n, k)
		}
		l, _ = Hear(l, 3, 6, 6, seq)
	}
}

func TestHearOfLinesThatNoAskHasMade(t *testing.T) {
	for _, left := range ints {
		for _, gap := range ints {
			l := out(0, 0, 0, "body", left, gap)
			if n, k := Hear(l, 0, 0, 0, 0); n != (api.Line{}) || k != api.Answer {
				t.Fatalf("Hear(%#v) of its answer = %#v, %d", l, n, k)
			}
			if n, k := Hear(l, 0, 9, 0, 0); n != idle(0, 9, 0) || k != api.Reboot {
				t.Fatalf("Hear(%#v) of another boot = %#v, %d", l, n, k)
			}
			if n, k := Hear(l, 1, 0, 0, 0); n != l || k != api.Nothing {
				t.Fatalf("Hear(%#v) of another life = %#v, %d", l, n, k)
			}
		}
	}
}

// P8.4 and P8.6: whole runs

// serverBoot is the boot of the server of the runs, which never restarts.
const serverBoot = 3

// packet is what goes between a line and a seat: a request, or the reply to one.
type packet struct {
	reply       bool
	life, asked uint32
	seq, boot   uint32
	text        string
	number      int // of the request, counted over all lives
}

// run is one line, one seat, and what became of the requests.
type run struct {
	t        *testing.T
	l        api.Line
	s        api.Seat
	number   int        // of the last request of the line, counted over all lives
	executed []int      // the numbers of the requests that were executed
	seats    []api.Seat // their lives and numbers there
	answered int
	reboots  int
	silent   int // ticks since a request was sent that is outstanding
}

// answerTo is what the server answers to a request.
func answerTo(body string) string { return "done: " + body }

// ask lets the line ask, if it can, and is the request.
func (r *run) ask() (packet, bool) {
	l, err := Ask(r.l, fmt.Sprintf("request %d", r.number+1))
	if err != api.OK {
		if r.l.Out != (err == api.ErrBusy) || l != (api.Line{}) {
			r.t.Fatalf("Ask(%#v) = %#v, %d", r.l, l, err)
		}
		return packet{}, false
	}
	r.l = l
	r.number++
	r.silent = 0
	return r.request(), true
}

// tick is a tick of the line, and its request, if it is sent again: at least every eighth tick it must be.
func (r *run) tick() (packet, bool) {
	was := r.l
	l, due := Tick(r.l)
	r.l = l
	r.silent++
	if due {
		r.silent = 0
	}
	if was.Left, was.Gap = l.Left, l.Gap; l != was || due && !l.Out || l.Out && r.silent >= 8 {
		r.t.Fatalf("%d ticks behind a sending, a tick makes %#v, %v of %#v", r.silent, l, due, was)
	}
	return r.request(), due
}

// request is the packet by which the line sends its request.
func (r *run) request() packet {
	return packet{life: r.l.Life, asked: r.l.Boot, seq: r.l.Seq, text: r.l.Body, number: r.number}
}

// restart begins a greater life, that doesn't know the server's boot.
func (r *run) restart(life uint32) { r.l = api.Line{Life: life} }

// serve is the server's reply to a request, if there is one: as layer 13 says it.
func (r *run) serve(p packet) (packet, bool) {
	reply := packet{reply: true, life: p.life, asked: p.asked, seq: p.seq, boot: serverBoot, number: p.number}
	if p.asked != serverBoot {
		return reply, true
	}
	switch Judge(r.s, p.life, p.seq) {
	case api.New:
		r.execute(p)
		r.s = Done(r.s, p.life, p.seq, answerTo(p.text))
	case api.Again:
	default:
		return packet{}, false
	}
	reply.text = r.s.Reply
	return reply, true
}

// execute notes that a request is executed, which must be the first time, behind all that were executed, and of no smaller life.
func (r *run) execute(p packet) {
	if n := len(r.executed); n > 0 && p.number <= r.executed[n-1] {
		r.t.Fatalf("request %d is executed behind %v", p.number, r.executed)
	}
	if n := len(r.seats); n > 0 && (p.life < r.seats[n-1].Life || p.life == r.seats[n-1].Life && p.seq != r.seats[n-1].Seq+1) {
		r.t.Fatalf("request %d of life %d is executed behind %d of %d", p.seq, p.life, r.seats[n-1].Seq, r.seats[n-1].Life)
	}
	r.executed = append(r.executed, p.number)
	r.seats = append(r.seats, api.Seat{Life: p.life, Seq: p.seq})
}

// hear lets the line hear a reply: one that it accepts must be the reply to its last request, which was executed once.
func (r *run) hear(p packet) {
	was := r.l
	l, k := Hear(r.l, p.life, p.boot, p.asked, p.seq)
	r.l = l
	switch k {
	case api.Nothing:
		if l != was {
			r.t.Fatalf("nothing is heard, but %#v becomes %#v", was, l)
		}
	case api.Reboot:
		r.reboots++
		if p.text != "" || l.Out || l.Boot != serverBoot {
			r.t.Fatalf("a reboot is heard of %#v, and %#v becomes %#v", p, was, l)
		}
	case api.Answer:
		r.answered++
		if n := len(r.executed); p.number != r.number || p.text != answerTo(was.Body) || n == 0 || r.executed[n-1] != r.number {
			r.t.Fatalf("the answer %#v is accepted for request %d, %#v; executed were %v", p, r.number, was, r.executed)
		}
	}
}

// arrive brings a packet to whom it is for, and is the reply, if there is one.
func (r *run) arrive(p packet) (packet, bool) {
	if p.reply {
		r.hear(p)
		return packet{}, false
	}
	return r.serve(p)
}

// shake is a run of random steps, over a net that loses, doubles, delays and mixes up packets.
func shake(r *run, rnd *rand.Rand, steps, restarts int) {
	var net []packet
	send := func(p packet, ok bool) {
		if ok {
			net = append(net, p)
		}
	}
	for range steps {
		i := 0
		if len(net) > 0 {
			i = rnd.Intn(len(net))
		}
		switch n := rnd.Intn(100); {
		case n < 20:
			send(r.ask())
		case n < 45:
			send(r.tick())
		case n < 46 && restarts > 0:
			restarts--
			r.restart(r.l.Life + 1 + uint32(rnd.Intn(3)))
		case len(net) == 0:
		case n < 55 && len(net) < 60:
			net = append(net, net[i])
		case n < 60:
			net = append(net[:i], net[i+1:]...)
		case n < 70:
			send(r.arrive(net[i]))
		default:
			p := net[i]
			net = append(net[:i], net[i+1:]...)
			send(r.arrive(p))
		}
	}
}

func TestRunsOverABadNet(t *testing.T) {
	answered := 0
	for seed := range int64(300) {
		r := &run{t: t, l: api.Line{Life: 1}}
		shake(r, rand.New(rand.NewSource(seed)), 1500, 0)
		if len(r.executed) == 0 || r.reboots != 1 {
			t.Errorf("of run %d, %d requests were executed, and %d reboots heard", seed, len(r.executed), r.reboots)
		}
		answered += r.answered
	}
	if answered < 3000 {
		t.Errorf("only %d requests were answered", answered)
	}
}

func TestRunsWithRestartsOfTheSender(t *testing.T) {
	answered, lives := 0, 0
	for seed := range int64(300) {
		r := &run{t: t, l: api.Line{Life: 1}}
		shake(r, rand.New(rand.NewSource(1000+seed)), 3000, 12)
		answered += r.answered
		for i, s := range r.seats {
			if i == 0 || s.Life != r.seats[i-1].Life {
				lives++
			}
		}
	}
	if answered < 3000 || lives < 900 {
		t.Errorf("only %d requests of %d lives were answered", answered, lives)
	}
}

func TestRunsAtTheGreatestNumbers(t *testing.T) {
	for seed := range int64(200) {
		r := &run{t: t, l: idle(7, serverBoot, top-5), s: seat(7, top-5)}
		shake(r, rand.New(rand.NewSource(2000+seed)), 1200, 0)
		if n := len(r.executed); n != 5 || r.answered != 5 || r.l != idle(7, serverBoot, top) {
			t.Errorf("of run %d, %d requests were executed, %d answered, and the line is %#v", seed, n, r.answered, r.l)
		}
		if _, err := Ask(r.l, "one more"); err != api.ErrMany {
			t.Errorf("of run %d, one more Ask is error %d", seed, err)
		}
		r.restart(8)
		shake(r, rand.New(rand.NewSource(3000+seed)), 600, 0)
		if len(r.executed) <= 5 || r.s.Life != 8 {
			t.Errorf("of run %d, nothing of the greater life was executed", seed)
		}
	}
}

func TestRunsOfTheGreatestLife(t *testing.T) {
	for seed := range int64(100) {
		r := &run{t: t, l: api.Line{Life: top - 1}}
		rnd := rand.New(rand.NewSource(4000 + seed))
		shake(r, rnd, 500, 0)
		r.restart(top)
		shake(r, rnd, 500, 0)
		if r.s.Life != top || len(r.executed) < 2 {
			t.Errorf("of run %d, the seat is %#v, and %v were executed", seed, r.s, r.executed)
		}
	}
}

// world is a whole state of a small run. Whatever was sent once (by life and number) can arrive at any time, as often as it likes, or never: that is a net that loses, doubles and delays.
type world struct {
	l        api.Line
	s        api.Seat
	sent     [worldLives + 1][worldSeqs + 1]bool // requests
	told     [worldLives + 1][worldSeqs + 1]bool // replies
	executed string                              // the names of the requests that were executed
}

// The bounds of a small run.
const (
	worldLives = 3
	worldSeqs  = 4
)

// name is what a request's body is: its life and number, so that the order of names is the order of requests.
func name(life, seq uint32) string { return fmt.Sprintf("%d.%d ", life, seq) }

// nexts are the states to which a step leads, and fails where a step breaks a promise.
func (w world) nexts(t *testing.T) []world {
	var l []world
	if w.l.Seq < worldSeqs && !w.l.Out {
		n := w
		n.l = asked(t, w.l, name(w.l.Life, w.l.Seq+1))
		n.sent[n.l.Life][n.l.Seq] = true
		l = append(l, n)
	}
	if w.l.Life < worldLives {
		n := w
		n.l = idle(w.l.Life+1, serverBoot, 0)
		l = append(l, n)
	}
	for life := uint32(1); life <= worldLives; life++ {
		for seq := uint32(1); seq <= worldSeqs; seq++ {
			if w.sent[life][seq] {
				l = append(l, w.serve(t, life, seq))
			}
			if w.told[life][seq] {
				l = append(l, w.hear(t, life, seq))
			}
		}
	}
	return l
}

// serve is the state behind a request's arrival.
func (w world) serve(t *testing.T, life, seq uint32) world {
	k := Judge(w.s, life, seq)
	if k == api.New {
		if n := len(w.executed); n > 0 && w.executed[n-4:] >= name(life, seq) {
			t.Fatalf("%s is executed behind %s", name(life, seq), w.executed)
		}
		w.executed += name(life, seq)
		w.s = Done(w.s, life, seq, answerTo(name(life, seq)))
	}
	if k == api.New || k == api.Again {
		if w.s.Reply != answerTo(name(life, seq)) {
			t.Fatalf("the answer to %s is %s", name(life, seq), w.s.Reply)
		}
		w.told[life][seq] = true
	}
	return w
}

// hear is the state behind a reply's arrival.
func (w world) hear(t *testing.T, life, seq uint32) world {
	n, k := Hear(w.l, life, serverBoot, serverBoot, seq)
	switch k {
	case api.Answer:
		if !w.l.Out || w.l.Body != name(life, seq) || len(w.executed) == 0 || w.executed[len(w.executed)-4:] != w.l.Body {
			t.Fatalf("the answer to %s is accepted by %#v, executed were %s", name(life, seq), w.l, w.executed)
		}
	case api.Nothing:
		if n != w.l || w.l.Out && w.l.Body == name(life, seq) {
			t.Fatalf("the answer to %s is not accepted by %#v, which becomes %#v", name(life, seq), w.l, n)
		}
	default:
		t.Fatalf("the answer to %s is heard by %#v as %d", name(life, seq), w.l, k)
	}
	w.l = n
	return w
}

func TestEveryRunOfFewRequests(t *testing.T) {
	first := world{l: idle(1, serverBoot, 0)}
	seen := map[world]bool{first: true}
	work := []world{first}
	full := false
	for len(work) > 0 {
		w := work[0]
		work = work[1:]
		full = full || w.executed == "1.1 1.2 1.3 1.4 2.1 2.2 2.3 2.4 3.1 3.2 3.3 3.4 "
		for _, n := range w.nexts(t) {
			if !seen[n] {
				seen[n] = true
				work = append(work, n)
			}
		}
	}
	if !full || len(seen) < 100 {
		t.Errorf("of %d states, none has every request executed, or they are too few", len(seen))
	}
}

// P8.5

// farthest is the greatest number of ticks, of so many, that lie between two sendings of a line.
func farthest(t *testing.T, l api.Line, ticks int) int {
	t.Helper()
	most, since := 0, 0
	for range ticks {
		n, ok := Tick(l)
		since++
		most = max(most, since)
		if ok {
			since = 0
		}
		l.Left, l.Gap = n.Left, n.Gap
		if n != l {
			t.Fatalf("a tick makes another request of %#v: %#v", l, n)
		}
	}
	return most
}

func TestARequestIsSentAtLeastEveryEighthTick(t *testing.T) {
	for _, life := range numbers {
		for _, seq := range numbers {
			if seq == top {
				continue
			}
			if n := farthest(t, asked(t, idle(life, 3, seq), "body"), 500); n != 8 {
				t.Fatalf("of request %d, %d ticks lie between two sendings", seq+1, n)
			}
		}
	}
	for _, gap := range ints {
		for _, left := range ints {
			if left > 8 {
				continue
			}
			if n := farthest(t, out(3, 4, 5, "body", left, gap), 200); n != 8 {
				t.Fatalf("with Left %d and Gap %d, %d ticks lie between two sendings", left, gap, n)
			}
		}
	}
}

func TestARequestComesThroughWhenTheNetLosesNoMore(t *testing.T) {
	for seed := range int64(200) {
		rnd := rand.New(rand.NewSource(5000 + seed))
		r := &run{t: t, l: api.Line{Life: 1}}
		shake(r, rnd, 300, 2)
		r.ask()
		for range rnd.Intn(100) {
			r.tick()
		}
		// The reply may also be that of a reboot, which ends the request, too.
		for left := 8; r.l.Out && left > 0; left-- {
			if p, due := r.tick(); due {
				if reply, ok := r.serve(p); ok {
					r.hear(reply)
				}
			}
		}
		if r.l.Out {
			t.Fatalf("of run %d, request %d is not answered within eight ticks: %#v", seed, r.number, r.l)
		}
	}
}

func TestOtherRepliesDoNotPutOffASending(t *testing.T) {
	l := asked(t, idle(3, 4, 5), "body")
	last := 0
	for i := range 200 {
		for _, x := range [][4]uint32{{2, 4, 4, 6}, {3, 4, 5, 6}, {3, 5, 5, 6}, {3, 4, 4, 5}, {3, 4, 4, 7}, {4, 9, 4, 6}} {
			var k int
			if l, k = Hear(l, x[0], x[1], x[2], x[3]); k != api.Nothing {
				t.Fatalf("Hear of %v = %d", x, k)
			}
		}
		var ok bool
		if l, ok = Tick(l); ok {
			last = i
		}
		if i-last >= 8 {
			t.Fatalf("at tick %d, the last sending was at %d", i+1, last+1)
		}
	}
}

// P8.6

func TestNothingOfASmallerLifeIsNew(t *testing.T) {
	for _, was := range numbers {
		for _, life := range numbers {
			if life <= was {
				continue
			}
			s := Done(seat(was, 5), life, 1, "first")
			for n := uint32(1); n < 4; n++ {
				for _, other := range numbers {
					for _, seq := range append(numbers, s.Seq, s.Seq+1) {
						if other >= life {
							continue
						}
						if k := Judge(s, other, seq); k != api.Old {
							t.Fatalf("behind life %d, Judge of %d of life %d = %d", life, seq, other, k)
						}
						if after := Done(s, other, seq, "x"); after != s {
							t.Fatalf("behind life %d, Done of %d of life %d = %#v", life, seq, other, after)
						}
					}
				}
				s = Done(s, life, n+1, "later")
			}
		}
	}
}

func TestTheLifeOfASeatOnlyGrows(t *testing.T) {
	r := rand.New(rand.NewSource(5))
	for range 200 {
		var s api.Seat
		greatest, last := uint32(0), uint32(0)
		for range 1000 {
			life, seq := s.Life+uint32(r.Intn(5))-2, s.Seq+uint32(r.Intn(4))-1
			if r.Intn(3) == 0 {
				seq = uint32(r.Intn(3))
			}
			k := Judge(s, life, seq)
			if k == api.New && (life < greatest || life == greatest && seq != last+1 || life > greatest && seq != 1) {
				t.Fatalf("request %d of life %d is new behind %d of %d", seq, life, last, greatest)
			}
			if k == api.New {
				greatest, last = life, seq
			}
			s = Done(s, life, seq, "x")
			if s.Life != greatest || s.Seq != last {
				t.Fatalf("the seat is %#v, not of request %d of life %d", s, last, greatest)
			}
		}
	}
}
