package stripe

import (
	"math"
	"math/rand"
	"slices"
	"testing"

	"lamella/api"
)

// wrongMaps are maps that may not be, for each reason, and for several at once.
var wrongMaps = []api.Map{
	{}, {Servers: 3}, {Unit: 4}, {Turn: 1},
	{Servers: math.MinInt, Unit: 4}, {Servers: -1, Unit: 4}, {Servers: -3, Unit: 4, Turn: -4}, {Servers: 0, Unit: 4}, {Servers: 0, Unit: 4, Turn: -1},
	{Servers: 17, Unit: 4}, {Servers: 17, Unit: 4, Turn: 16}, {Servers: 32, Unit: 4, Turn: 1}, {Servers: 1<<32 + 3, Unit: 4}, {Servers: math.MaxInt, Unit: 4},
	{Servers: 3, Unit: math.MinInt}, {Servers: 3, Unit: -4}, {Servers: 3, Unit: -1}, {Servers: 3, Unit: 0, Turn: 2},
	{Servers: 3, Unit: 65}, {Servers: 3, Unit: 128}, {Servers: 3, Unit: 1<<32 + 4}, {Servers: 3, Unit: math.MaxInt},
	{Servers: 3, Unit: 4, Turn: math.MinInt}, {Servers: 3, Unit: 4, Turn: -3}, {Servers: 3, Unit: 4, Turn: -1}, {Servers: 1, Unit: 1, Turn: -1},
	{Servers: 3, Unit: 4, Turn: 3}, {Servers: 3, Unit: 4, Turn: 4}, {Servers: 1, Unit: 4, Turn: 1}, {Servers: 16, Unit: 64, Turn: 16}, {Servers: 3, Unit: 4, Turn: math.MaxInt},
	{Servers: math.MinInt, Unit: math.MinInt, Turn: math.MinInt}, {Servers: math.MaxInt, Unit: math.MaxInt, Turn: math.MaxInt}, {Servers: 17, Unit: 65, Turn: 17},
}

// mapOf is a map, whether it may be or not.
func mapOf(servers, unit, turn int) api.Map {
	return api.Map{Servers: servers, Unit: unit, Turn: turn}
}

// frag is a fragment.
func frag(server, off, at, n int) api.Frag {
	return api.Frag{Server: server, Off: off, At: at, Len: n}
}

// allMaps are all maps that may be.
func allMaps() []api.Map {
	var l []api.Map
	for n := 1; n <= api.MaxServers; n++ {
		for unit := 1; unit <= api.MaxUnit; unit++ {
			for turn := range n {
				l = append(l, mapOf(n, unit, turn))
			}
		}
	}
	return l
}

// someMaps are those of the least and greatest numbers, and some between them, with every turn.
func someMaps() []api.Map {
	var l []api.Map
	for _, m := range allMaps() {
		if slices.Contains([]int{1, 2, 3, 7, 15, 16}, m.Servers) && slices.Contains([]int{1, 2, 3, 4, 31, 32, 33, 63, 64}, m.Unit) {
			l = append(l, m)
		}
	}
	return l
}

// fewMaps are some of those, for what is long to look at: with the first turn, the last one, and one between them.
func fewMaps() []api.Map {
	var l []api.Map
	for _, m := range someMaps() {
		if slices.Contains([]int{1, 3, 16}, m.Servers) && slices.Contains([]int{1, 4, 33, 64}, m.Unit) && slices.Contains([]int{0, m.Servers / 2, m.Servers - 1}, m.Turn) {
			l = append(l, m)
		}
	}
	return l
}

// spotted is where a byte lies.
type spotted struct{ server, at int }

// deal lays the greatest file's bytes out by hand, unit by unit, each behind what its server has: every byte's spot, and each server's bytes (that of no server first).
func deal(m api.Map) ([]spotted, [][]int) {
	var spots []spotted
	objects := make([][]int, m.Servers+1)
	server := m.Turn + 1
	for x := range api.MaxFile {
		if x > 0 && x%m.Unit == 0 {
			server++
		}
		if server > m.Servers {
			server = 1
		}
		spots = append(spots, spotted{server, len(objects[server])})
		objects[server] = append(objects[server], x)
	}
	return spots, objects
}

// dealFrags are a request's fragments, put together byte by byte.
func dealFrags(m api.Map, spots []spotted, off, length int) []api.Frag {
	var l []api.Frag
	for at := range length {
		x := off + at
		if at == 0 || x%m.Unit == 0 {
			l = append(l, api.Frag{Server: spots[x].server, Off: spots[x].at, At: at})
		}
		l[len(l)-1].Len++
	}
	return l
}

// frags are the fragments of a request that there may be.
func frags(t *testing.T, m api.Map, off, length int) []api.Frag {
	t.Helper()
	l, err := Frags(m, off, length)
	if err != api.OK {
		t.Fatalf("Frags(%v, %d, %d): error %d", m, off, length, err)
	}
	return l
}

// length is the length of an object that there may be.
func length(t *testing.T, m api.Map, server, size int) int {
	t.Helper()
	n, err := Length(m, server, size)
	if err != api.OK {
		t.Fatalf("Length(%v, %d, %d): error %d", m, server, size, err)
	}
	return n
}

// where is a byte's spot, of a byte that there may be.
func where(t *testing.T, m api.Map, x int) spotted {
	t.Helper()
	server, at, err := Where(m, x)
	if err != api.OK {
		t.Fatalf("Where(%v, %d): error %d", m, x, err)
	}
	return spotted{server, at}
}

// edges are numbers of a file's bytes at which something begins or ends, and their neighbours, rising.
func edges(m api.Map) []int {
	var l []int
	row := m.Unit * m.Servers
	for _, x := range []int{0, m.Unit, 2 * m.Unit, row, 2 * row, 7*m.Unit + m.Unit/2, api.MaxWrite, api.MaxFile / 2, api.MaxFile / m.Unit * m.Unit, api.MaxFile / row * row, api.MaxFile} {
		for _, y := range []int{x - 1, x, x + 1} {
			if y >= 0 && y <= api.MaxFile {
				l = append(l, y)
			}
		}
	}
	slices.Sort(l)
	return slices.Compact(l)
}

// requests calls do with the off and the length of many requests of a map: of no byte, of one, of one unit, from boundary to boundary, across boundaries, of the whole file.
func requests(m api.Map, do func(off, length int)) {
	for _, off := range edges(m) {
		for _, end := range edges(m) {
			if end >= off {
				do(off, end-off)
			}
		}
		for _, length := range []int{1, 2, m.Unit - 1, m.Unit, m.Unit + 1, api.MaxWrite} {
			if off+length <= api.MaxFile {
				do(off, length)
			}
		}
	}
}

// P6.1

func TestRightOfMapsThatMayBe(t *testing.T) {
	l := allMaps()
	if len(l) != 136*64 {
		t.Fatalf("%d maps", len(l))
	}
	for _, m := range l {
		if !Right(m) {
			t.Errorf("%v may not be", m)
		}
	}
}

func TestRightOfWrongMaps(t *testing.T) {
	for _, m := range wrongMaps {
		if Right(m) {
			t.Errorf("%v may be", m)
		}
	}
	for _, good := range someMaps() {
		for _, wrong := range []int{math.MinInt, -65, -17, -1, 65, 1 << 32, math.MaxInt} {
			for _, m := range []api.Map{mapOf(wrong, good.Unit, good.Turn), mapOf(good.Servers, wrong, good.Turn), mapOf(good.Servers, good.Unit, wrong), mapOf(good.Servers, good.Unit, good.Servers), mapOf(good.Turn, good.Unit, good.Turn)} {
				if Right(m) {
					t.Errorf("%v may be", m)
				}
			}
		}
	}
}

func TestWhereIsWhereBytesAreDealt(t *testing.T) {
	for _, m := range allMaps() {
		spots, _ := deal(m)
		for x, want := range spots {
			if server, at, err := Where(m, x); server != want.server || at != want.at || err != api.OK {
				t.Fatalf("Where(%v, %d) is %d, %d, error %d, not %v", m, x, server, at, err, want)
			}
		}
	}
}

func TestBackIsTheByteThatWasDealt(t *testing.T) {
	for _, m := range allMaps() {
		_, objects := deal(m)
		for server := 1; server <= m.Servers; server++ {
			for at, want := range objects[server] {
				if x, err := Back(m, server, at); x != want || err != api.OK {
					t.Fatalf("Back(%v, %d, %d) is %d, error %d, not %d", m, server, at, x, err, want)
				}
			}
		}
	}
}

func TestWhereAndBackWrittenOut(t *testing.T) {
	for _, w := range []struct {
		m             api.Map
		x, server, at int
	}{
		{mapOf(3, 4, 1), 0, 2, 0}, {mapOf(3, 4, 1), 13, 2, 5},
		{mapOf(3, 4, 1), 3, 2, 3}, {mapOf(3, 4, 1), 4, 3, 0}, {mapOf(3, 4, 1), 8, 1, 0}, {mapOf(3, 4, 1), 12, 2, 4},
		{mapOf(1, 1, 0), 0, 1, 0}, {mapOf(1, 1, 0), 1023, 1, 1023}, {mapOf(1, 64, 0), 0, 1, 0}, {mapOf(1, 64, 0), 1023, 1, 1023},
		{mapOf(16, 1, 0), 0, 1, 0}, {mapOf(16, 1, 0), 1023, 16, 63}, {mapOf(16, 1, 15), 0, 16, 0}, {mapOf(16, 1, 15), 1023, 15, 63},
		{mapOf(16, 64, 0), 0, 1, 0}, {mapOf(16, 64, 0), 1023, 16, 63}, {mapOf(16, 64, 15), 0, 16, 0}, {mapOf(16, 64, 15), 1023, 15, 63}, {mapOf(16, 64, 1), 960, 1, 0},
		{mapOf(3, 4, 0), 1023, 1, 343},
	} {
		if server, at, err := Where(w.m, w.x); server != w.server || at != w.at || err != api.OK {
			t.Errorf("Where(%v, %d) is %d, %d, error %d", w.m, w.x, server, at, err)
		}
		if x, err := Back(w.m, w.server, w.at); x != w.x || err != api.OK {
			t.Errorf("Back(%v, %d, %d) is %d, error %d", w.m, w.server, w.at, x, err)
		}
	}
}

func TestWhereOfNoByte(t *testing.T) {
	for _, m := range allMaps() {
		for _, x := range []int{math.MinInt, math.MinInt + 1, -1 << 32, -1024, -m.Unit, -1, 1024, 1025, 1024 + m.Unit, 1 << 31, 1 << 32, 1 << 37, 1 << 41, math.MaxInt - 1, math.MaxInt} {
			if server, at, err := Where(m, x); server != 0 || at != 0 || err != api.ErrArg {
				t.Fatalf("Where(%v, %d) is %d, %d, error %d", m, x, server, at, err)
			}
		}
	}
}

func TestBackOfNoServer(t *testing.T) {
	for _, m := range allMaps() {
		for _, server := range []int{math.MinInt, -1 << 32, -m.Servers, -1, 0, m.Servers + 1, m.Servers + 2, 2*m.Servers + 1, 17, 256, 1<<32 + 1, math.MaxInt} {
			for _, at := range []int{0, 1, m.Unit} {
				if x, err := Back(m, server, at); x != 0 || err != api.ErrArg {
					t.Fatalf("Back(%v, %d, %d) is %d, error %d", m, server, at, x, err)
				}
			}
		}
	}
}

func TestBackOfNoOffset(t *testing.T) {
	for _, m := range allMaps() {
		_, objects := deal(m)
		for server := 1; server <= m.Servers; server++ {
			n := len(objects[server])
			wrong := []int{
				math.MinInt, math.MinInt + 1, -1 << 32, -m.Unit - 1, -m.Unit, -m.Unit + 1, -1,
				m.Unit * (1<<31 - 1), m.Unit<<31 - 1, m.Unit << 31, m.Unit << 32, m.Unit<<32 + n, math.MaxInt/m.Unit - 1, math.MaxInt - m.Unit, math.MaxInt - 1, math.MaxInt,
			}
			for at := n; at <= n+2*m.Unit; at++ {
				wrong = append(wrong, at)
			}
			wrong = append(wrong, api.MaxFile, api.MaxFile+1, n+m.Unit*m.Servers)
			for _, at := range wrong {
				if at > -1 && at < n {
					continue
				}
				if x, err := Back(m, server, at); x != 0 || err != api.ErrArg {
					t.Fatalf("Back(%v, %d, %d) is %d, error %d, though the server has %d bytes", m, server, at, x, err, n)
				}
			}
		}
	}
}

// P6.1, P6.2

func TestWrongMapsHaveNoAnswers(t *testing.T) {
	for _, m := range wrongMaps {
		for _, x := range []int{math.MinInt, -1, 0, 1, 13, 1023, 1024, math.MaxInt} {
			if server, at, err := Where(m, x); server != 0 || at != 0 || err != api.ErrArg {
				t.Errorf("Where(%v, %d) is %d, %d, error %d", m, x, server, at, err)
			}
			for _, y := range []int{math.MinInt, -1, 0, 1, 2, 3, 16, math.MaxInt} {
				if back, err := Back(m, y, x); back != 0 || err != api.ErrArg {
					t.Errorf("Back(%v, %d, %d) is %d, error %d", m, y, x, back, err)
				}
				if n, err := Length(m, y, x); n != 0 || err != api.ErrArg {
					t.Errorf("Length(%v, %d, %d) is %d, error %d", m, y, x, n, err)
				}
				if l, err := Frags(m, x, y); len(l) != 0 || err != api.ErrArg {
					t.Errorf("Frags(%v, %d, %d) is %v, error %d", m, x, y, l, err)
				}
			}
		}
	}
}

// P6.2

func TestFragsAreThoseOfTheBytes(t *testing.T) {
	for _, m := range someMaps() {
		spots, _ := deal(m)
		requests(m, func(off, length int) {
			if l, want := frags(t, m, off, length), dealFrags(m, spots, off, length); !slices.Equal(l, want) {
				t.Fatalf("Frags(%v, %d, %d) is %v, not %v", m, off, length, l, want)
			}
		})
	}
}

func TestFragsOfEveryShortRequest(t *testing.T) {
	for _, m := range []api.Map{{Servers: 1, Unit: 64}, {Servers: 3, Unit: 4, Turn: 1}, {Servers: 16, Unit: 1, Turn: 15}, {Servers: 5, Unit: 7, Turn: 2}} {
		spots, _ := deal(m)
		for off := 0; off <= api.MaxFile; off++ {
			for length := 0; length <= min(api.MaxWrite+1, api.MaxFile-off); length++ {
				if l, want := frags(t, m, off, length), dealFrags(m, spots, off, length); !slices.Equal(l, want) {
					t.Fatalf("Frags(%v, %d, %d) is %v, not %v", m, off, length, l, want)
				}
			}
		}
	}
}

func TestFragsWrittenOut(t *testing.T) {
	three := mapOf(3, 4, 1)
	for _, x := range []struct {
		m           api.Map
		off, length int
		want        []api.Frag
	}{
		{three, 2, 4, []api.Frag{frag(2, 2, 0, 2), frag(3, 0, 2, 2)}},
		{three, 0, 0, nil}, {three, 2, 0, nil}, {three, 4, 0, nil}, {three, 1024, 0, nil},
		{three, 0, 1, []api.Frag{frag(2, 0, 0, 1)}},
		{three, 5, 2, []api.Frag{frag(3, 1, 0, 2)}},
		{three, 4, 4, []api.Frag{frag(3, 0, 0, 4)}},
		{three, 3, 1, []api.Frag{frag(2, 3, 0, 1)}},
		{three, 3, 2, []api.Frag{frag(2, 3, 0, 1), frag(3, 0, 1, 1)}},
		{three, 8, 8, []api.Frag{frag(1, 0, 0, 4), frag(2, 4, 4, 4)}},
		{three, 7, 10, []api.Frag{frag(3, 3, 0, 1), frag(1, 0, 1, 4), frag(2, 4, 5, 4), frag(3, 4, 9, 1)}},
		{three, 1023, 1, []api.Frag{frag(2, 343, 0, 1)}},
		{mapOf(1, 64, 0), 60, 8, []api.Frag{frag(1, 60, 0, 4), frag(1, 64, 4, 4)}},
		{mapOf(1, 1, 0), 1022, 2, []api.Frag{frag(1, 1022, 0, 1), frag(1, 1023, 1, 1)}},
		{mapOf(16, 64, 15), 0, 65, []api.Frag{frag(16, 0, 0, 64), frag(1, 0, 64, 1)}},
		{mapOf(2, 63, 0), 1000, 24, []api.Frag{frag(2, 496, 0, 8), frag(1, 504, 8, 16)}},
	} {
		if l := frags(t, x.m, x.off, x.length); !slices.Equal(l, x.want) {
			t.Errorf("Frags(%v, %d, %d) is %v, not %v", x.m, x.off, x.length, l, x.want)
		}
	}
}

func TestFragsOfWrongRequests(t *testing.T) {
	for _, m := range someMaps() {
		for _, x := range [][2]int{
			{-1, 0}, {-1, 1}, {-1, 2}, {-m.Unit, m.Unit}, {-m.Unit, 2 * m.Unit}, {math.MinInt, 0}, {math.MinInt, 1}, {math.MinInt, math.MaxInt}, {math.MinInt + 1, math.MaxInt}, {math.MinInt, math.MinInt},
			{0, -1}, {1, -1}, {2, -1}, {1023, -1}, {1024, -1}, {1025, -1}, {1024, -1024}, {2048, -1024}, {0, math.MinInt}, {1024, math.MinInt}, {math.MaxInt, math.MinInt}, {math.MaxInt, math.MinInt + 1}, {-1, -1}, {-1, math.MinInt},
			{1024, 1}, {1025, 0}, {1023, 2}, {0, 1025}, {1, 1024}, {512, 513}, {math.MaxInt, 0}, {0, math.MaxInt}, {1, math.MaxInt}, {1024, math.MaxInt}, {math.MaxInt, 1}, {math.MaxInt, math.MaxInt}, {math.MaxInt, 2}, {1 << 62, 1 << 62}, {1 << 32, 0}, {0, 1 << 32},
		} {
			if l, err := Frags(m, x[0], x[1]); len(l) != 0 || err != api.ErrArg {
				t.Fatalf("Frags(%v, %d, %d) is %v, error %d", m, x[0], x[1], l, err)
			}
		}
	}
}

func TestLengthCountsTheBytesBelowTheSize(t *testing.T) {
	for _, m := range someMaps() {
		spots, _ := deal(m)
		lengths := make([]int, m.Servers+1)
		for size := 0; size <= api.MaxFile; size++ {
			if size > 0 {
				last := spots[size-1]
				lengths[last.server] = last.at + 1
			}
			for server := 1; server <= m.Servers; server++ {
				if n := length(t, m, server, size); n != lengths[server] {
					t.Fatalf("Length(%v, %d, %d) is %d, not %d", m, server, size, n, lengths[server])
				}
			}
		}
	}
}

func TestLengthOfNoByteAndOfTheGreatestFile(t *testing.T) {
	for _, m := range allMaps() {
		_, objects := deal(m)
		for server := 1; server <= m.Servers; server++ {
			if n := length(t, m, server, 0); n != 0 {
				t.Errorf("Length(%v, %d, 0) is %d", m, server, n)
			}
			if n := length(t, m, server, api.MaxFile); n != len(objects[server]) {
				t.Errorf("Length(%v, %d, MaxFile) is %d, not %d", m, server, n, len(objects[server]))
			}
		}
	}
}

func TestLengthWrittenOut(t *testing.T) {
	three := mapOf(3, 4, 1)
	for _, x := range []struct {
		m                  api.Map
		server, size, want int
	}{
		{three, 2, 13, 5}, {three, 3, 13, 4}, {three, 1, 13, 4}, {three, 2, 12, 4}, {three, 2, 16, 8}, {three, 2, 17, 8},
		{three, 1, 8, 0}, {three, 1, 9, 1}, {three, 3, 4, 0}, {three, 3, 5, 1}, {three, 2, 1, 1}, {three, 2, 0, 0}, {three, 2, 1024, 344}, {three, 3, 1024, 340}, {three, 1, 1024, 340},
		{mapOf(1, 1, 0), 1, 1024, 1024}, {mapOf(1, 64, 0), 1, 65, 65}, {mapOf(16, 64, 15), 15, 1024, 64}, {mapOf(16, 64, 15), 15, 960, 0}, {mapOf(16, 64, 15), 15, 961, 1},
	} {
		if n := length(t, x.m, x.server, x.size); n != x.want {
			t.Errorf("Length(%v, %d, %d) is %d, not %d", x.m, x.server, x.size, n, x.want)
		}
	}
}

func TestLengthOfNoServerOrSize(t *testing.T) {
	look := func(m api.Map, server, size int) {
		if n, err := Length(m, server, size); n != 0 || err != api.ErrArg {
			t.Errorf("Length(%v, %d, %d) is %d, error %d", m, server, size, n, err)
		}
	}
	for _, m := range someMaps() {
		for _, server := range []int{math.MinInt, -m.Servers, -1, 0, m.Servers + 1, 2*m.Servers + 1, 17, 1<<32 + 1, math.MaxInt} {
			for _, size := range []int{math.MinInt, -1, 0, 1, 13, 1024, 1025, math.MaxInt} {
				look(m, server, size)
			}
		}
		for server := 1; server <= m.Servers; server++ {
			for _, size := range []int{math.MinInt, math.MinInt + 1, -1 << 32, -m.Unit, -1, 1025, 1024 + m.Unit, 1 << 32, 1<<32 + 1, math.MaxInt - m.Unit, math.MaxInt - 1, math.MaxInt} {
				look(m, server, size)
			}
		}
	}
}

// Rule 4: what is answered is new memory, and what is done to it changes no other answer.
func TestFragsAreNewMemory(t *testing.T) {
	m := mapOf(3, 4, 1)
	want := slices.Clone(frags(t, m, 2, 30))
	first, second := frags(t, m, 2, 30), frags(t, m, 2, 30)
	for _, l := range [][]api.Frag{first, frags(t, m, 2, 0), frags(t, m, 0, api.MaxFile)} {
		l = l[:cap(l)]
		for i := range l {
			l[i] = frag(-1, -1, -1, -1)
		}
	}
	if !slices.Equal(second, want) || !slices.Equal(frags(t, m, 2, 30), want) {
		t.Errorf("fragments changed with those of another call: %v, not %v", second, want)
	}
}

// P6.3

func TestFragsLaidTogetherAreTheRequest(t *testing.T) {
	random := rand.New(rand.NewSource(6))
	file := make([]byte, api.MaxFile)
	random.Read(file)
	for _, m := range someMaps() {
		objects := make([][]byte, m.Servers+1)
		for server := range objects {
			objects[server] = make([]byte, api.MaxFile)
		}
		for x, b := range file {
			s := where(t, m, x)
			objects[s.server][s.at] = b
		}
		requests(m, func(off, length int) {
			got := make([]byte, length)
			next := 0
			for _, f := range frags(t, m, off, length) {
				if f.At != next || f.Len < 1 {
					t.Fatalf("Frags(%v, %d, %d): %v begins not at %d, or has no byte", m, off, length, f, next)
				}
				next += copy(got[f.At:], objects[f.Server][f.Off:f.Off+f.Len])
			}
			if next != length || string(got) != string(file[off:off+length]) {
				t.Fatalf("the fragments of %d bytes from %d on, of %v, are others", length, off, m)
			}
		})
	}
}

func TestEachByteOfARequestIsOnceInFrags(t *testing.T) {
	for _, m := range fewMaps() {
		requests(m, func(off, length int) {
			var seen [api.MaxFile]int
			for _, f := range frags(t, m, off, length) {
				for i := range f.Len {
					x := off + f.At + i
					seen[x]++
					if s := where(t, m, x); s.server != f.Server || s.at != f.Off+i {
						t.Fatalf("Frags(%v, %d, %d): byte %d is told by %v, and lies at %v", m, off, length, x, f, s)
					}
					if x/m.Unit != (off+f.At)/m.Unit {
						t.Fatalf("Frags(%v, %d, %d): %v is of two units", m, off, length, f)
					}
				}
			}
			for x, n := range seen {
				if inside := x >= off && x < off+length; n > 1 || (n == 1) != inside {
					t.Fatalf("Frags(%v, %d, %d): byte %d is there %d times", m, off, length, x, n)
				}
			}
		})
	}
}

// P6.4

func TestNoTwoBytesLieAtOneSpot(t *testing.T) {
	for _, m := range someMaps() {
		seen := map[spotted]int{}
		for x := range api.MaxFile {
			s := where(t, m, x)
			if other, ok := seen[s]; ok || s.server < 1 || s.server > m.Servers || s.at < 0 {
				t.Fatalf("of %v, the bytes %d and %d lie at %v", m, other, x, s)
			}
			seen[s] = x
			if back, err := Back(m, s.server, s.at); back != x || err != api.OK {
				t.Fatalf("of %v, byte %d lies at %v, and there lies %d, error %d", m, x, s, back, err)
			}
		}
	}
}

func TestLengthsTogetherHoldTheFile(t *testing.T) {
	for _, m := range someMaps() {
		for size := 0; size <= api.MaxFile; size++ {
			sum := 0
			for server := 1; server <= m.Servers; server++ {
				sum += length(t, m, server, size)
			}
			if sum < size {
				t.Fatalf("the objects of %d bytes, of %v, have %d", size, m, sum)
			}
		}
	}
}

// P6.5

func TestFragsLieBelowTheLengthForTheirEnd(t *testing.T) {
	for _, m := range fewMaps() {
		requests(m, func(off, size int) {
			for _, f := range frags(t, m, off, size) {
				if n := length(t, m, f.Server, off+size); f.Off < 0 || f.Off+f.Len > n {
					t.Fatalf("Frags(%v, %d, %d): %v reaches behind %d", m, off, size, f, n)
				}
			}
		})
	}
}

// P6.6

func TestAnotherTurnMovesTheServerAlone(t *testing.T) {
	for _, m := range someMaps() {
		for turn := range m.Servers {
			other := m
			other.Turn = turn
			for x := range api.MaxFile {
				was, is := where(t, m, x), where(t, other, x)
				if by := ((turn-m.Turn)%m.Servers + m.Servers) % m.Servers; is.server != (was.server-1+by)%m.Servers+1 || is.at != was.at {
					t.Fatalf("byte %d of %v lies at %v, and with the turn %d at %v", x, m, was, turn, is)
				}
			}
		}
	}
}

// P6.7

// splitAt are fragments cut at a byte of the request: those ahead of it, and those from it on, counted from there.
func splitAt(l []api.Frag, at int) ([]api.Frag, []api.Frag) {
	var ahead, behind []api.Frag
	for _, f := range l {
		if n := min(f.Len, at-f.At); n > 0 {
			ahead = append(ahead, frag(f.Server, f.Off, f.At, n))
		}
		if n := max(0, at-f.At); n < f.Len {
			behind = append(behind, frag(f.Server, f.Off+n, f.At+n-at, f.Len-n))
		}
	}
	return ahead, behind
}

func TestFragsOfAdjacentRequests(t *testing.T) {
	for _, m := range fewMaps() {
		points := edges(m)
		for _, off := range points {
			for _, cut := range points {
				for _, end := range []int{cut, cut + 1, cut + m.Unit, cut + api.MaxWrite, api.MaxFile} {
					if cut < off || end < cut || end > api.MaxFile {
						continue
					}
					ahead, behind := splitAt(frags(t, m, off, end-off), cut-off)
					if l := frags(t, m, off, cut-off); !slices.Equal(l, ahead) {
						t.Fatalf("of %v, from %d over %d to %d: first %v, not %v", m, off, cut, end, l, ahead)
					}
					if l := frags(t, m, cut, end-cut); !slices.Equal(l, behind) {
						t.Fatalf("of %v, from %d over %d to %d: then %v, not %v", m, off, cut, end, l, behind)
					}
				}
			}
		}
	}
}
