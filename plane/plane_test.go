package plane

import (
	"math"
	"testing"

	"lamella/api"
)

// wrongColumns are numbers of columns that there can't be.
var wrongColumns = []int{math.MinInt, -17, -16, -1, 0, 17, 18, 32, math.MaxInt}

// turns are small ones, ones at the edges of every n, and the greatest ones.
var turns = []int{
	0, 1, -1, 2, -2, 3, -3, 7, -7, 15, -15, 16, -16, 17, -17, 1000003, -1000003,
	math.MaxInt, math.MaxInt - 1, math.MaxInt - 15, math.MinInt, math.MinInt + 1, math.MinInt + 15,
}

// someUnits are units of n columns, the first and the last ones among them, rising.
func someUnits(n int) []int {
	var l []int
	for k := range 3*n + 2 {
		l = append(l, k)
	}
	for _, row := range []int{1 << 8, 1 << 24, 1 << 30} {
		l = append(l, row*n-1, row*n, row*n+n-1)
	}
	for k := n*api.MaxPlace - 2*n; k < n*api.MaxPlace; k++ {
		l = append(l, k)
	}
	return l
}

// noPlaces are complex numbers that are no places of n columns.
func noPlaces(n int) []complex128 {
	nan, inf, tiny := math.NaN(), math.Inf(1), math.SmallestNonzeroFloat64
	wide := float64(n)
	return []complex128{
		complex(0.5, 0), complex(0, 0.5), complex(0.5, 0.5), complex(wide-0.5, 1), complex(0, 1<<31-0.5),
		complex(tiny, 0), complex(0, tiny), complex(-tiny, 0), complex(0, -tiny), complex(math.Nextafter(wide, 0), 0), complex(0, math.Nextafter(1<<31, 0)),
		complex(-1, 0), complex(0, -1), complex(-1, -1), complex(-0.5, 0), complex(0, -0.5), complex(-1, 5), complex(-wide, 1),
		complex(wide, 0), complex(wide, 7), complex(wide+1, 0), complex(16, 0), complex(1<<31, 0), complex(1e300, 0),
		complex(0, 1<<31), complex(0, 1<<31+1), complex(0, 1<<32), complex(0, 1<<53), complex(0, 1<<63), complex(0, 1e300), complex(0, math.MaxFloat64),
		complex(nan, 0), complex(0, nan), complex(nan, nan),
		complex(inf, 0), complex(0, inf), complex(-inf, 0), complex(0, -inf), complex(inf, inf), complex(inf, nan),
	}
}

// place is the place of a unit that there is.
func place(t *testing.T, k, n int) complex128 {
	t.Helper()
	z, err := Place(k, n)
	if err != api.OK {
		t.Fatalf("Place(%d, %d): error %d", k, n, err)
	}
	return z
}

// P1.1

func TestPlaceAndUnitOfUnits(t *testing.T) {
	for n := 1; n <= api.MaxServers; n++ {
		for _, k := range someUnits(n) {
			want := complex(float64(k%n), float64(k/n))
			if z := place(t, k, n); z != want {
				t.Errorf("Place(%d, %d) is %v, not %v", k, n, z, want)
			}
			if got, ok := Unit(want, n); got != k || !ok {
				t.Errorf("Unit(%v, %d) is %d, %v, not %d", want, n, got, ok, k)
			}
		}
	}
}

func TestPlaceWrittenOut(t *testing.T) {
	for _, x := range []struct {
		k, n int
		z    complex128
	}{
		{7, 3, 1 + 2i}, {0, 1, 0}, {0, 16, 0}, {5, 1, 5i}, {15, 16, 15}, {16, 16, 1i}, {2, 3, 2}, {3, 3, 1i},
		{1<<31 - 1, 1, 2147483647i}, {3<<31 - 1, 3, 2 + 2147483647i}, {16<<31 - 1, 16, 15 + 2147483647i},
	} {
		if z, err := Place(x.k, x.n); z != x.z || err != api.OK {
			t.Errorf("Place(%d, %d) is %v, error %d", x.k, x.n, z, err)
		}
	}
}

func TestPlaceOfNoUnit(t *testing.T) {
	for n := 1; n <= api.MaxServers; n++ {
		for _, k := range []int{math.MinInt, -1 << 31, -n, -1, n << 31, n<<31 + 1, 1 << 36, math.MaxInt} {
			if z, err := Place(k, n); z != 0 || err != api.ErrArg {
				t.Errorf("Place(%d, %d) is %v, error %d", k, n, z, err)
			}
		}
	}
	for _, n := range wrongColumns {
		for _, k := range []int{math.MinInt, -1, 0, 1, 1 << 31, math.MaxInt} {
			if z, err := Place(k, n); z != 0 || err != api.ErrArg {
				t.Errorf("Place(%d, %d) is %v, error %d", k, n, z, err)
			}
		}
	}
}

func TestUnitOfNoPlace(t *testing.T) {
	for n := 1; n <= api.MaxServers; n++ {
		for _, z := range noPlaces(n) {
			if k, ok := Unit(z, n); k != 0 || ok {
				t.Errorf("Unit(%v, %d) is %d, %v", z, n, k, ok)
			}
		}
	}
	for _, n := range wrongColumns {
		for _, z := range []complex128{0, 1, 1i, -1} {
			if k, ok := Unit(z, n); k != 0 || ok {
				t.Errorf("Unit(%v, %d) is %d, %v", z, n, k, ok)
			}
		}
	}
}

func TestNegativeZeroIsZero(t *testing.T) {
	minus := math.Copysign(0, -1)
	z := complex(minus, minus)
	if k, ok := Unit(z, 3); k != 0 || !ok {
		t.Errorf("Unit of negative zeros is %d, %v", k, ok)
	}
	got, ok := Turn(z, 0, 3)
	if got != 0 || !ok || math.Signbit(real(got)) || math.Signbit(imag(got)) {
		t.Errorf("a turn of negative zeros is %v, %v", got, ok)
	}
}

// P1.2

func TestStepIsTheNextPlace(t *testing.T) {
	for n := 1; n <= api.MaxServers; n++ {
		last := n*api.MaxPlace - 1
		for _, k := range someUnits(n) {
			z, ok := Step(place(t, k, n), n)
			if k == last {
				if z != 0 || ok {
					t.Errorf("behind the last of %d columns: %v, %v", n, z, ok)
				}
			} else if want := place(t, k+1, n); z != want || !ok {
				t.Errorf("the step from unit %d of %d columns is %v, %v, not %v", k, n, z, ok, want)
			}
		}
	}
}

func TestStepWrittenOut(t *testing.T) {
	for _, x := range []struct {
		z, next complex128
		n       int
		ok      bool
	}{
		{2, 1i, 3, true}, {0, 1, 3, true}, {0, 1i, 1, true}, {15 + 4i, 5i, 16, true}, {1 + 2147483647i, 2 + 2147483647i, 3, true},
		{2 + 2147483647i, 0, 3, false}, {2147483647i, 0, 1, false}, {15 + 2147483647i, 0, 16, false}, {2147483646i, 2147483647i, 1, true},
	} {
		if z, ok := Step(x.z, x.n); z != x.next || ok != x.ok {
			t.Errorf("Step(%v, %d) is %v, %v", x.z, x.n, z, ok)
		}
	}
}

func TestTurnMovesTheColumn(t *testing.T) {
	for n := 1; n <= api.MaxServers; n++ {
		for _, k := range someUnits(n) {
			z := place(t, k, n)
			for _, by := range turns {
				want := complex(float64((k%n+(by%n+n)%n)%n), imag(z))
				if got, ok := Turn(z, by, n); got != want || !ok {
					t.Errorf("Turn(%v, %d, %d) is %v, %v, not %v", z, by, n, got, ok, want)
				}
			}
		}
	}
}

func TestTurnWrittenOut(t *testing.T) {
	for _, x := range []struct {
		z    complex128
		t, n int
		want complex128
	}{
		{1 + 2i, -2, 3, 2 + 2i}, {1 + 2i, 2, 3, 2i}, {1 + 2i, 0, 3, 1 + 2i}, {1 + 2i, 3, 3, 1 + 2i}, {1 + 2i, -1, 3, 2i}, {1 + 2i, -3, 3, 1 + 2i},
		{2, math.MaxInt, 3, 0}, {1 + 2i, math.MinInt, 3, 2 + 2i}, {15 + 2147483647i, 1, 16, 2147483647i}, {5i, math.MinInt, 1, 5i}, {15, math.MinInt, 16, 15}, {3, math.MaxInt, 16, 2},
	} {
		if z, ok := Turn(x.z, x.t, x.n); z != x.want || !ok {
			t.Errorf("Turn(%v, %d, %d) is %v, %v", x.z, x.t, x.n, z, ok)
		}
	}
}

func TestServerIsOneMoreThanTheTurnedColumn(t *testing.T) {
	for n := 1; n <= api.MaxServers; n++ {
		for _, k := range someUnits(n) {
			for _, by := range turns {
				want := 1 + (k%n+(by%n+n)%n)%n
				if s, err := Server(k, by, n); s != want || err != api.OK {
					t.Errorf("Server(%d, %d, %d) is %d, error %d, not %d", k, by, n, s, err, want)
				}
			}
		}
	}
	if s, err := Server(7, 1, 3); s != 3 || err != api.OK {
		t.Errorf("Server(7, 1, 3) is %d, error %d", s, err)
	}
}

func TestServerOfNoUnit(t *testing.T) {
	for _, by := range turns {
		for n := 1; n <= api.MaxServers; n++ {
			for _, k := range []int{math.MinInt, -7, -1, n << 31, math.MaxInt} {
				if s, err := Server(k, by, n); s != 0 || err != api.ErrArg {
					t.Errorf("Server(%d, %d, %d) is %d, error %d", k, by, n, s, err)
				}
			}
		}
		for _, n := range wrongColumns {
			if s, err := Server(0, by, n); s != 0 || err != api.ErrArg {
				t.Errorf("Server(0, %d, %d) is %d, error %d", by, n, s, err)
			}
		}
	}
}

func TestBetweenCountsUnits(t *testing.T) {
	for n := 1; n <= api.MaxServers; n++ {
		for _, i := range someUnits(n) {
			for _, j := range someUnits(n) {
				if d, ok := Between(place(t, i, n), place(t, j, n), n); d != j-i || !ok {
					t.Errorf("between the units %d and %d of %d columns: %d, %v", i, j, n, d, ok)
				}
			}
		}
	}
	for _, x := range []struct {
		a, b complex128
		n, d int
	}{{2i, 1, 3, -5}, {1, 2i, 3, 5}, {1i, 1i, 3, 0}, {0, 15 + 2147483647i, 16, 16<<31 - 1}, {15 + 2147483647i, 0, 16, 1 - 16<<31}} {
		if d, ok := Between(x.a, x.b, x.n); d != x.d || !ok {
			t.Errorf("Between(%v, %v, %d) is %d, %v", x.a, x.b, x.n, d, ok)
		}
	}
}

func TestMovesOfNoPlace(t *testing.T) {
	look := func(z complex128, n int) {
		if got, ok := Step(z, n); got != 0 || ok {
			t.Errorf("Step(%v, %d) is %v, %v", z, n, got, ok)
		}
		for _, by := range turns {
			if got, ok := Turn(z, by, n); got != 0 || ok {
				t.Errorf("Turn(%v, %d, %d) is %v, %v", z, by, n, got, ok)
			}
		}
		for _, pair := range [][2]complex128{{z, 1i}, {1i, z}, {z, z}} {
			if d, ok := Between(pair[0], pair[1], n); d != 0 || ok {
				t.Errorf("Between(%v, %v, %d) is %d, %v", pair[0], pair[1], n, d, ok)
			}
		}
	}
	for n := 1; n <= api.MaxServers; n++ {
		for _, z := range noPlaces(n) {
			look(z, n)
		}
	}
	for _, n := range wrongColumns {
		for _, z := range []complex128{0, 1, 1i, -1} {
			look(z, n)
		}
	}
}

// P1.3

func TestStepsRoundLeadOneRowFurther(t *testing.T) {
	for n := 1; n <= api.MaxServers; n++ {
		for _, k := range someUnits(n) {
			if k/n == api.MaxPlace-1 {
				continue
			}
			start := place(t, k, n)
			z := start
			for range n {
				next, ok := Step(z, n)
				if !ok {
					t.Fatalf("no step from %v with %d columns", z, n)
				}
				z = next
			}
			if z != start+1i {
				t.Errorf("%d steps from %v lead to %v", n, start, z)
			}
		}
	}
}

// P1.4

func TestTurnAndTurnBack(t *testing.T) {
	for n := 1; n <= api.MaxServers; n++ {
		for _, k := range someUnits(n) {
			z := place(t, k, n)
			for _, by := range turns {
				if by == math.MinInt { // -t wraps round to t itself
					continue
				}
				there, ok := Turn(z, by, n)
				back, also := Turn(there, -by, n)
				if back != z || !ok || !also {
					t.Errorf("%v of %d columns, turned by %d to %v and back to %v", z, n, by, there, back)
				}
			}
		}
	}
}

func TestConsecutiveUnitsHaveDifferentColumns(t *testing.T) {
	for n := 1; n <= api.MaxServers; n++ {
		for _, first := range []int{0, 1, n - 1, 5*n + n/2, n*api.MaxPlace - n} {
			for _, by := range turns {
				seen := map[int]bool{}
				for k := first; k < first+n; k++ {
					z, ok := Turn(place(t, k, n), by, n)
					s, err := Server(k, by, n)
					if !ok || err != api.OK || s != 1+int(real(z)) || s < 1 || s > n || seen[s] {
						t.Errorf("unit %d of %d columns, turned by %d: server %d, place %v", k, n, by, s, z)
					}
					seen[s] = true
				}
			}
		}
	}
}

// P1.5

func TestBetweenIsAdditive(t *testing.T) {
	for n := 1; n <= api.MaxServers; n++ {
		last := n*api.MaxPlace - 1
		units := []int{0, 1, n - 1, n, 7*n + n/2, last / 2, last - n, last - 1, last}
		for _, i := range units {
			for _, j := range units {
				for _, k := range units {
					a, b, c := place(t, i, n), place(t, j, n), place(t, k, n)
					ab, ok1 := Between(a, b, n)
					bc, ok2 := Between(b, c, n)
					ac, ok3 := Between(a, c, n)
					if ab+bc != ac || !ok1 || !ok2 || !ok3 {
						t.Errorf("from %v over %v to %v: %d + %d, not %d", a, b, c, ab, bc, ac)
					}
				}
			}
		}
	}
}

func TestBetweenCountsSteps(t *testing.T) {
	for n := 1; n <= api.MaxServers; n++ {
		start := place(t, n/2, n)
		z := start
		for steps := range 4*n + 1 {
			if d, ok := Between(start, z, n); d != steps || !ok {
				t.Errorf("%d steps of %d columns count as %d, %v", steps, n, d, ok)
			}
			if d, ok := Between(z, start, n); d != -steps || !ok {
				t.Errorf("%d steps back of %d columns count as %d, %v", steps, n, d, ok)
			}
			z, _ = Step(z, n)
		}
	}
}
