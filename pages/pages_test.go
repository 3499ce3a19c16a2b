package pages

import (
	"math"
	"math/rand"
	"slices"
	"strings"
	"testing"

	"lamella/api"
	"lamella/device"
	"lamella/rows"
)

// numbers are files, the least and the greatest one too, and such as differ in one byte only.
var numbers = []uint32{0, 1, 2, 7, 0x50, 0xff, 0x100, 0x107, 0x01020304, 0x04030201, 0x7fffffff, 0x80000000, 0xffffff00, math.MaxUint32}

// noughts is so many zero bytes.
func noughts(n int) string { return strings.Repeat("\x00", n) }

// page1 is a page, whether it may be or not.
func page1(n int, data string) api.Page { return api.Page{N: n, Data: data} }

// filled is a page that has these bytes from its byte at on, and zero bytes around them.
func filled(n, at int, s string) api.Page {
	return page1(n, noughts(at)+s+noughts(32-at-len(s)))
}

// mixed is n bytes that all differ from their neighbours, and of which none is zero.
func mixed(from, n int) string {
	b := make([]byte, n)
	for i := range b {
		b[i] = byte(1 + (from+i)%255)
	}
	return string(b)
}

// blank is all bytes of an object without pages.
func blank() []byte { return make([]byte, 1024) }

// laid is all bytes of an object, byte by byte.
func laid(o []api.Page) []byte {
	b := blank()
	for _, p := range o {
		for i := range len(p.Data) {
			b[32*p.N+i] = p.Data[i]
		}
	}
	return b
}

// taken is the object that has these bytes, page by page.
func taken(b []byte) []api.Page {
	var o []api.Page
	for n := 0; n < 32; n++ {
		s := string(b[32*n : 32*n+32])
		if s != noughts(32) {
			o = append(o, page1(n, s))
		}
	}
	return o
}

// objects are lists that are objects.
func objects() [][]api.Page {
	var every, even, last []api.Page
	for n := range 32 {
		every = append(every, page1(n, mixed(5*n, 32)))
		if n%2 == 0 {
			even = append(even, page1(n, mixed(3*n, 32)))
		}
		last = append(last, filled(n, 31, "z"))
	}
	return [][]api.Page{
		nil,
		{},
		{filled(0, 0, "a")}, {filled(0, 31, "a")}, {filled(0, 15, "\xff")}, {page1(0, mixed(0, 32))},
		{filled(31, 0, "a")}, {filled(31, 31, "a")}, {filled(31, 7, "\x80\x00\x01")}, {page1(31, mixed(9, 32))},
		{filled(0, 30, "ab"), filled(1, 0, "c")},
		{filled(0, 31, "\x01"), filled(31, 0, "\x01")},
		{page1(15, mixed(1, 32)), page1(16, mixed(2, 32))},
		{filled(3, 2, "hello"), page1(4, mixed(0, 32)), filled(9, 31, "x")},
		every, even, last, every[:31], every[1:], even[3:5],
	}
}

// wrongLists are lists that are not objects, for each reason, and for several at once.
func wrongLists() [][]api.Page {
	a, b, c := page1(0, mixed(0, 32)), page1(4, mixed(7, 32)), page1(31, mixed(1, 32))
	var many []api.Page
	for n := range 33 {
		many = append(many, page1(n, mixed(n, 32)))
	}
	return [][]api.Page{
		{page1(0, "")}, {page1(0, "a")}, {page1(0, mixed(0, 31))}, {page1(0, mixed(0, 33))}, {page1(0, mixed(0, 64))}, {page1(31, mixed(0, 31))}, {page1(31, mixed(0, 1000))},
		{a, page1(4, mixed(0, 31)), c}, {a, b, page1(31, mixed(0, 33))},
		{page1(0, noughts(32))}, {page1(31, noughts(32))}, {a, page1(4, noughts(32)), c}, {a, b, page1(31, noughts(32))}, {page1(0, noughts(31))}, {page1(0, noughts(33))},
		{page1(-1, mixed(0, 32))}, {page1(-1, mixed(0, 32)), a}, {page1(-32, mixed(0, 32)), a, c}, {page1(math.MinInt, mixed(0, 32))}, {page1(math.MinInt, mixed(0, 32)), b},
		{page1(32, mixed(0, 32))}, {a, b, page1(32, mixed(0, 32))}, {page1(33, mixed(0, 32))}, {page1(256, mixed(0, 32))}, {c, page1(1<<32, mixed(0, 32))}, {page1(math.MaxInt, mixed(0, 32))}, {a, page1(math.MaxInt, mixed(0, 32))},
		{a, a}, {c, c}, {b, a}, {c, b}, {a, c, b}, {a, b, b}, {b, c, a}, {a, page1(0, mixed(9, 32))}, {c, page1(-1, mixed(0, 32))}, {b, page1(math.MinInt, mixed(0, 32))},
		many, many[1:],
		{page1(-1, "")}, {page1(32, noughts(32)), page1(32, noughts(32))}, {a, page1(math.MaxInt, "a"), page1(math.MinInt, "")}, {page1(0, ""), page1(0, "")}, {{}}, {{}, {}},
	}
}

// wrongSpans are offsets and lengths that lie in no object.
var wrongSpans = [][2]int{
	{-1, 0}, {-1, 1}, {-1, 2}, {-32, 64}, {math.MinInt, 0}, {math.MinInt, 1}, {math.MinInt, math.MaxInt}, {math.MinInt, math.MinInt},
	{0, -1}, {5, -1}, {1, -32}, {1025, -1}, {2048, -1024}, {0, math.MinInt}, {1024, math.MinInt}, {math.MaxInt, math.MinInt}, {-1, -1}, {math.MaxInt, -math.MaxInt},
	{0, 1025}, {1, 1024}, {1023, 2}, {1024, 1}, {1025, 0}, {512, 513}, {992, 33}, {2048, 0},
	{1, math.MaxInt}, {1024, math.MaxInt}, {math.MaxInt, 0}, {math.MaxInt, 1}, {math.MaxInt, 1024}, {math.MaxInt, math.MaxInt}, {1 << 62, 1 << 62}, {1 << 32, 0}, {0, 1 << 32},
}

// spots are offsets at which pages begin or end, and their neighbours, and some between them.
var spots = []int{0, 1, 2, 15, 30, 31, 32, 33, 63, 64, 65, 100, 511, 512, 513, 991, 992, 993, 1000, 1022, 1023, 1024}

// sizes are lengths that end at such offsets.
var sizes = []int{0, 1, 2, 3, 15, 30, 31, 32, 33, 34, 63, 64, 65, 96, 500, 512, 991, 992, 993, 1022, 1023, 1024}

// same fails unless an answer is this object.
func same(t *testing.T, o, want []api.Page, err api.Errno, format string, a ...any) {
	t.Helper()
	if err != api.OK || !slices.Equal(o, want) {
		t.Errorf(format+" = %#v, %d, want %#v", append(a, o, err, want)...)
	}
}

// put is an object with bytes that can be put into it.
func put(t *testing.T, o []api.Page, off int, data string) []api.Page {
	t.Helper()
	o, err := Put(o, off, data)
	if err != api.OK {
		t.Fatalf("Put at %d of %d bytes: error %d", off, len(data), err)
	}
	return o
}

// cut is an object without its bytes from a size on.
func cut(t *testing.T, o []api.Page, size int) []api.Page {
	t.Helper()
	o, err := Cut(o, size)
	if err != api.OK {
		t.Fatalf("Cut at %d: error %d", size, err)
	}
	return o
}

// read is some of an object's bytes.
func read(t *testing.T, o []api.Page, off, length int) string {
	t.Helper()
	s, err := Bytes(o, off, length)
	if err != api.OK {
		t.Fatalf("Bytes from %d, %d of them: error %d", off, length, err)
	}
	return s
}

// length is an object's length.
func length(t *testing.T, o []api.Page) int {
	t.Helper()
	n, err := Length(o)
	if err != api.OK {
		t.Fatalf("Length of %#v: error %d", o, err)
	}
	return n
}

// randomText is some bytes, often zero ones.
func randomText(r *rand.Rand, n int) string {
	b := make([]byte, n)
	for i := range b {
		if r.Intn(3) > 0 {
			b[i] = byte(r.Intn(256))
		}
	}
	if r.Intn(4) == 0 {
		clear(b)
	}
	return string(b)
}

// randomSpan is an offset and a length that lie in an object, often at the boundary of a page.
func randomSpan(r *rand.Rand) (int, int) {
	ends := []int{r.Intn(1025), r.Intn(1025)}
	for i := range ends {
		if r.Intn(2) == 0 {
			ends[i] = ends[i] / 32 * 32
		}
		if i == 1 && r.Intn(2) == 0 {
			ends[1] = min(1024, ends[0]+r.Intn(70))
		}
	}
	return min(ends[0], ends[1]), max(ends[0], ends[1]) - min(ends[0], ends[1])
}

// randomObject is an object of some puts, by hand.
func randomObject(r *rand.Rand) []api.Page {
	b := blank()
	for range r.Intn(6) {
		off, n := randomSpan(r)
		copy(b[off:off+n], randomText(r, n))
	}
	return taken(b)
}

// store is a device's rows, with these.
func store(t *testing.T, l ...api.Change) *rows.Rows {
	t.Helper()
	r, err := rows.Open(device.New(41 + 200))
	if err != api.OK {
		t.Fatalf("rows.Open: error %d", err)
	}
	commit(t, r, l)
	return r
}

// commit changes rows, as many at once as may be.
func commit(t *testing.T, r *rows.Rows, l []api.Change) {
	t.Helper()
	for c := range slices.Chunk(l, 40) {
		if err := r.Commit(c); err != api.OK {
			t.Fatalf("Commit of %#v: error %d", c, err)
		}
	}
}

// row is a change to a value.
func row(key, value string) api.Change { return api.Change{Key: key, Value: value} }

// gone is a change that removes a row.
func gone(key string) api.Change { return api.Change{Key: key, Gone: true} }

// keyOf is a page's key, told by hand.
func keyOf(file uint32, n int) string {
	return string([]byte{'P', byte(file >> 24), byte(file >> 16), byte(file >> 8), byte(file), 0, byte(n)})
}

// rowsOf are the rows of an object, told by hand.
func rowsOf(file uint32, o []api.Page) []api.Change {
	var l []api.Change
	for _, p := range o {
		l = append(l, row(keyOf(file, p.N), p.Data))
	}
	return l
}

// P7.1

func TestRight(t *testing.T) {
	for _, o := range objects() {
		if !Right(o) {
			t.Errorf("Right(%#v) = false", o)
		}
	}
	for _, o := range wrongLists() {
		if Right(o) {
			t.Errorf("Right(%#v) = true", o)
		}
	}
	for n := -3; n < 40; n++ {
		if ok := Right([]api.Page{page1(n, mixed(n+3, 32))}); ok != (n >= 0 && n <= 31) {
			t.Errorf("Right of page %d alone = %v", n, ok)
		}
	}
	for size := range 70 {
		if ok := Right([]api.Page{page1(5, mixed(0, size))}); ok != (size == 32) {
			t.Errorf("Right of a page of %d bytes = %v", size, ok)
		}
	}
	for at := range 32 {
		if !Right([]api.Page{filled(5, at, "\x01")}) {
			t.Errorf("Right of a page whose byte %d alone is not zero = false", at)
		}
	}
}

func TestRightOfPagesThatDoNotRise(t *testing.T) {
	for n := range 32 {
		for m := range 32 {
			o := []api.Page{page1(n, mixed(0, 32)), page1(m, mixed(8, 32))}
			if ok := Right(o); ok != (n < m) {
				t.Errorf("Right of the pages %d and %d = %v", n, m, ok)
			}
		}
	}
}

func TestBytes(t *testing.T) {
	for _, o := range objects() {
		b := laid(o)
		for _, off := range spots {
			for _, n := range sizes {
				if off+n > 1024 {
					continue
				}
				s, err := Bytes(o, off, n)
				if want := string(b[off : off+n]); err != api.OK || s != want {
					t.Errorf("Bytes(%#v, %d, %d) = %#v, %d, want %#v", o, off, n, s, err, want)
				}
			}
		}
	}
}

func TestBytesOfEverySpan(t *testing.T) {
	o := []api.Page{filled(0, 31, "a"), page1(1, mixed(0, 32)), filled(3, 0, "bc"), page1(31, mixed(4, 32))}
	b := string(laid(o))
	for off := range 1025 {
		for n := 0; off+n <= 1024; n += 1 + n/40 {
			if s, err := Bytes(o, off, n); err != api.OK || s != b[off:off+n] {
				t.Fatalf("Bytes(o, %d, %d) = %#v, %d", off, n, s, err)
			}
		}
	}
}

func TestBytesOfWrongArguments(t *testing.T) {
	for _, o := range wrongLists() {
		for _, x := range append(wrongSpans, [2]int{0, 0}, [2]int{0, 1024}, [2]int{1024, 0}, [2]int{31, 2}) {
			if s, err := Bytes(o, x[0], x[1]); s != "" || err != api.ErrArg {
				t.Errorf("Bytes(%#v, %d, %d) = %#v, %d", o, x[0], x[1], s, err)
			}
		}
	}
	for _, o := range objects() {
		for _, x := range wrongSpans {
			if s, err := Bytes(o, x[0], x[1]); s != "" || err != api.ErrArg {
				t.Errorf("Bytes(%#v, %d, %d) = %#v, %d", o, x[0], x[1], s, err)
			}
		}
	}
}

func TestPut(t *testing.T) {
	for i, o := range objects() {
		for _, off := range spots {
			for _, n := range sizes {
				if off+n > 1024 {
					continue
				}
				for _, data := range []string{mixed(i+off, n), noughts(n), noughts(n/2) + mixed(off, n-n/2), mixed(off, n/2) + noughts(n-n/2)} {
					b := laid(o)
					copy(b[off:], data)
					now, err := Put(o, off, data)
					same(t, now, taken(b), err, "Put(%#v, %d, %#v)", o, off, data)
				}
			}
		}
	}
}

func TestPutTheWholeFile(t *testing.T) {
	data := mixed(3, 1024)
	for _, o := range objects() {
		now, err := Put(o, 0, data)
		same(t, now, taken([]byte(data)), err, "Put(%#v, 0, %#v)", o, data)
		now, err = Put(o, 0, noughts(1024))
		same(t, now, nil, err, "Put(%#v, 0, zero bytes)", o)
	}
}

func TestPutNothing(t *testing.T) {
	for _, o := range objects() {
		for off := range 1025 {
			now, err := Put(o, off, "")
			same(t, now, o, err, "Put(%#v, %d, nothing)", o, off)
		}
	}
}

func TestPutZeroBytes(t *testing.T) {
	o := []api.Page{filled(0, 30, "ab"), filled(1, 0, "c"), filled(5, 4, "d"), page1(6, mixed(0, 32))}
	for _, x := range []struct {
		off, n int
		want   []api.Page
	}{
		{30, 3, []api.Page{o[2], o[3]}},
		{30, 2, o[1:]},
		{0, 32, o[1:]},
		{31, 2, []api.Page{filled(0, 30, "a"), o[2], o[3]}},
		{32, 1, []api.Page{o[0], o[2], o[3]}},
		{164, 1, []api.Page{o[0], o[1], o[3]}},
		{165, 27, o},
		{160, 4, o},
		{192, 32, o[:3]},
		{192, 31, []api.Page{o[0], o[1], o[2], filled(6, 31, "\x20")}},
		{1023, 1, o},
		{64, 96, o},
		{0, 1024, nil},
	} {
		now, err := Put(o, x.off, noughts(x.n))
		same(t, now, x.want, err, "Put(%#v, %d, %d zero bytes)", o, x.off, x.n)
	}
	for off := range 1024 {
		now, err := Put(nil, off, noughts(min(40, 1024-off)))
		same(t, now, nil, err, "Put(no pages, %d, zero bytes)", off)
	}
}

func TestPutWrongArguments(t *testing.T) {
	for _, o := range wrongLists() {
		for _, off := range []int{0, 5, 1024, -1, 1025, math.MinInt, math.MaxInt} {
			for _, data := range []string{"", "a", mixed(0, 1024), mixed(0, 1025)} {
				if now, err := Put(o, off, data); len(now) != 0 || err != api.ErrArg {
					t.Errorf("Put(%#v, %d, %d bytes) = %#v, %d", o, off, len(data), now, err)
				}
			}
		}
	}
	for _, o := range objects() {
		for _, x := range wrongSpans {
			if x[1] < 0 || x[1] > 4096 {
				continue
			}
			for _, data := range []string{mixed(0, x[1]), noughts(x[1])} {
				if now, err := Put(o, x[0], data); len(now) != 0 || err != api.ErrArg {
					t.Errorf("Put(%#v, %d, %d bytes) = %#v, %d", o, x[0], x[1], now, err)
				}
			}
		}
	}
}

func TestCut(t *testing.T) {
	for _, o := range objects() {
		for size := range 1100 {
			b := laid(o)
			for x := size; x < 1024; x++ {
				b[x] = 0
			}
			now, err := Cut(o, size)
			same(t, now, taken(b), err, "Cut(%#v, %d)", o, size)
		}
		for _, size := range []int{2048, 1 << 32, math.MaxInt - 1, math.MaxInt} {
			now, err := Cut(o, size)
			same(t, now, o, err, "Cut(%#v, %d)", o, size)
		}
	}
}

func TestCutWrongArguments(t *testing.T) {
	for _, size := range []int{-1, -2, -32, -1024, math.MinInt + 1, math.MinInt} {
		for _, o := range objects() {
			if now, err := Cut(o, size); len(now) != 0 || err != api.ErrArg {
				t.Errorf("Cut(%#v, %d) = %#v, %d", o, size, now, err)
			}
		}
	}
	for _, o := range wrongLists() {
		for _, size := range []int{0, 1, 31, 32, 1024, math.MaxInt, -1, math.MinInt} {
			if now, err := Cut(o, size); len(now) != 0 || err != api.ErrArg {
				t.Errorf("Cut(%#v, %d) = %#v, %d", o, size, now, err)
			}
		}
	}
}

func TestLength(t *testing.T) {
	for _, o := range objects() {
		want := 0
		for x, c := range laid(o) {
			if c != 0 {
				want = 1 + x
			}
		}
		if n, err := Length(o); n != want || err != api.OK {
			t.Errorf("Length(%#v) = %d, %d, want %d", o, n, err, want)
		}
	}
	for x := range 1024 {
		for _, c := range []byte{1, 0x80, 0xff} {
			b := blank()
			b[0], b[x/2], b[x] = 7, 0, c
			if n, err := Length(taken(b)); n != x+1 || err != api.OK {
				t.Errorf("Length of an object whose byte %d is the last that is not zero = %d, %d", x, n, err)
			}
		}
	}
}

func TestLengthOfWrongLists(t *testing.T) {
	for _, o := range wrongLists() {
		if n, err := Length(o); n != 0 || err != api.ErrArg {
			t.Errorf("Length(%#v) = %d, %d", o, n, err)
		}
	}
}

// P7.2

func TestKey(t *testing.T) {
	for _, x := range []struct {
		file uint32
		page int
		want string
	}{
		{0, 0, "P\x00\x00\x00\x00\x00\x00"},
		{7, 3, "P\x00\x00\x00\x07\x00\x03"},
		{0x01020304, 31, "P\x01\x02\x03\x04\x00\x1f"},
		{0x80000000, 16, "P\x80\x00\x00\x00\x00\x10"},
		{math.MaxUint32, 31, "P\xff\xff\xff\xff\x00\x1f"},
		{math.MaxUint32, 0, "P\xff\xff\xff\xff\x00\x00"},
	} {
		if k := Key(x.file, x.page); k != x.want {
			t.Errorf("Key(%d, %d) = %#v, want %#v", x.file, x.page, k, x.want)
		}
	}
	for _, file := range numbers {
		for n := range 32 {
			if k := Key(file, n); k != keyOf(file, n) {
				t.Errorf("Key(%d, %d) = %#v, want %#v", file, n, k, keyOf(file, n))
			}
		}
		for _, n := range []int{-1, -2, -32, -256, math.MinInt, 32, 33, 64, 255, 256, 257, 65535, 65536, 1 << 32, 1<<32 + 5, math.MaxInt} {
			if k := Key(file, n); k != "" {
				t.Errorf("Key(%d, %d) = %#v, want none", file, n, k)
			}
		}
	}
}

func TestLoad(t *testing.T) {
	for i, o := range objects() {
		for j, file := range numbers {
			if (i+j)%3 > 0 && file != math.MaxUint32 {
				continue
			}
			now, err := Load(store(t, rowsOf(file, o)...), file)
			same(t, now, o, err, "Load of file %d with the rows of %#v", file, o)
		}
	}
}

func TestLoadOfNilRows(t *testing.T) {
	for _, file := range numbers {
		if o, err := Load(nil, file); len(o) != 0 || err != api.OK {
			t.Errorf("Load(nil, %d) = %#v, %d", file, o, err)
		}
	}
}

// others are rows that are not of file 0x01020304, though some of them look nearly so, and are not those of an object.
func others() []api.Change {
	return []api.Change{
		row("P", "x"), row("P\x01", "x"), row("P\x01\x02\x03", "x"), row("P\x01\x02\x03\x05", mixed(0, 32)), row("P\x01\x02\x03\x05\x00\x00", mixed(0, 32)), row("P\x01\x02\x03\x03\x00\x63", ""),
		row("P\x00\x02\x03\x04\x00\x00", mixed(0, 32)), row("P\x02\x02\x03\x04\x00\x00", "x"), row("P\x01\x03\x03\x04\x00\x00", noughts(32)), row("P\x01\x02\x02\x04\x00", mixed(1, 32)), row("P\x04\x03\x02\x01\x00\x00", mixed(0, 32)),
		row("Q\x01\x02\x03\x04\x00\x00", "x"), row("O\x01\x02\x03\x04\x00\x00", mixed(0, 32)), row("p\x01\x02\x03\x04\x00\x00", ""), row("E\x01\x02\x03\x04", "\x00\x00\x00\x01"), row("B", "\x00\x00\x00\x01"), row("\x01\x02\x03\x04", mixed(0, 32)), row("\x01\x02\x03\x04\x00\x00", ""), row("\x00P\x01\x02\x03\x04\x00\x00", "x"),
	}
}

func TestLoadBesideOtherRows(t *testing.T) {
	for _, o := range objects() {
		r := store(t, append(rowsOf(0x01020304, o), others()...)...)
		now, err := Load(r, 0x01020304)
		same(t, now, o, err, "Load beside other rows, with the rows of %#v", o)
	}
}

func TestLoadOfManyFiles(t *testing.T) {
	var l []api.Change
	list := objects()[2:10]
	for i, file := range numbers {
		l = append(l, rowsOf(file, list[i%len(list)])...)
	}
	r := store(t, l...)
	for i, file := range numbers {
		now, err := Load(r, file)
		same(t, now, list[i%len(list)], err, "Load of file %d beside the other files", file)
	}
	for _, file := range []uint32{3, 0xfe, 0x01020305, 0xfffffffe} {
		now, err := Load(r, file)
		same(t, now, nil, err, "Load of file %d, that has no rows", file)
	}
}

func TestLoadOfSpoiltRows(t *testing.T) {
	good := mixed(0, 32)
	for _, file := range numbers {
		start := keyOf(file, 0)[:5]
		for _, c := range []api.Change{
			row(start, good), row(start, ""), row(start+"\x00", good), row(start+"\x01", good),
			row(start+"\x00\x01\x00", good), row(start+"\x00\x01\x01", good), row(start+"\x00\x00\x00\x01", good), row(start+"\x00\x01\x00\x00\x00\x00\x00\x00\x00\x00\x00", good),
			row(start+"\x00\x20", good), row(start+"\x00\x21", good), row(start+"\x00\xff", good), row(start+"\x01\x00", good), row(start+"\x01\x01", good), row(start+"\x10\x00", good), row(start+"\x80\x00", good), row(start+"\xff\xff", good),
			row(start+"\x00\x01", ""), row(start+"\x00\x01", "a"), row(start+"\x00\x01", good[:31]), row(start+"\x00\x01", good+"a"), row(start+"\x00\x01", good+"\x00"), row(start+"\x00\x1f", mixed(0, 200)),
			row(start+"\x00\x01", noughts(32)), row(start+"\x00\x1f", noughts(32)), row(start+"\x00\x01", noughts(31)), row(start+"\x00\x01", noughts(64)),
		} {
			for _, l := range [][]api.Change{{c}, {row(keyOf(file, 0), good), c, row(keyOf(file, 30), good)}} {
				if o, err := Load(store(t, l...), file); len(o) != 0 || err != api.ErrSpoilt {
					t.Errorf("Load of file %d with the row %#v: %#v = %#v, %d", file, c.Key, c.Value, o, err)
				}
			}
		}
	}
}

// changesOf are the changes between two objects, told by hand.
func changesOf(file uint32, was, now []api.Page) []api.Change {
	a, b := laid(was), laid(now)
	var l []api.Change
	for n := range 32 {
		x, y := string(a[32*n:32*n+32]), string(b[32*n:32*n+32])
		if x == y {
			continue
		}
		if y == noughts(32) {
			l = append(l, gone(keyOf(file, n)))
		} else {
			l = append(l, row(keyOf(file, n), y))
		}
	}
	return l
}

func TestChanges(t *testing.T) {
	a, b, c, d := page1(0, mixed(0, 32)), page1(3, mixed(1, 32)), page1(3, mixed(2, 32)), page1(31, mixed(3, 32))
	for _, x := range []struct {
		was, now []api.Page
		want     []api.Change
	}{
		{nil, nil, nil},
		{nil, []api.Page{a}, []api.Change{row("P\x00\x00\x00\x07\x00\x00", a.Data)}},
		{[]api.Page{a}, nil, []api.Change{gone("P\x00\x00\x00\x07\x00\x00")}},
		{[]api.Page{a}, []api.Page{a}, nil},
		{[]api.Page{b}, []api.Page{c}, []api.Change{row("P\x00\x00\x00\x07\x00\x03", c.Data)}},
		{[]api.Page{a, b}, []api.Page{c, d}, []api.Change{gone("P\x00\x00\x00\x07\x00\x00"), row("P\x00\x00\x00\x07\x00\x03", c.Data), row("P\x00\x00\x00\x07\x00\x1f", d.Data)}},
		{[]api.Page{b, d}, []api.Page{a, b}, []api.Change{row("P\x00\x00\x00\x07\x00\x00", a.Data), gone("P\x00\x00\x00\x07\x00\x1f")}},
		{[]api.Page{a, b, d}, []api.Page{a, c, d}, []api.Change{row("P\x00\x00\x00\x07\x00\x03", c.Data)}},
		{[]api.Page{a, b, d}, []api.Page{b}, []api.Change{gone("P\x00\x00\x00\x07\x00\x00"), gone("P\x00\x00\x00\x07\x00\x1f")}},
	} {
		if l, err := Changes(7, x.was, x.now); err != api.OK || !slices.Equal(l, x.want) {
			t.Errorf("Changes(7, %#v, %#v) = %#v, %d, want %#v", x.was, x.now, l, err, x.want)
		}
	}
}

func TestChangesOfAllPairs(t *testing.T) {
	for i, was := range objects() {
		for j, now := range objects() {
			file := numbers[(i+j)%len(numbers)]
			l, err := Changes(file, was, now)
			if want := changesOf(file, was, now); err != api.OK || !slices.Equal(l, want) {
				t.Errorf("Changes(%d, %#v, %#v) = %#v, %d, want %#v", file, was, now, l, err, want)
			}
			if i == j && len(l) > 0 {
				t.Errorf("Changes(%d, %#v, the same) = %#v", file, was, l)
			}
		}
	}
}

func TestChangesOfPagesThatDifferInOneByte(t *testing.T) {
	for at := range 32 {
		was := []api.Page{page1(0, mixed(0, 32)), page1(9, mixed(0, 32)), page1(31, mixed(0, 32))}
		b := laid(was)
		b[9*32+at] ^= 0x80
		l, err := Changes(9, was, taken(b))
		if err != api.OK || len(l) != 1 || l[0] != row(keyOf(9, 9), string(b[9*32:10*32])) {
			t.Errorf("Changes when byte %d of page 9 turns = %#v, %d", at, l, err)
		}
	}
}

func TestChangesOfWrongLists(t *testing.T) {
	some := objects()[10]
	for _, o := range wrongLists() {
		for _, x := range [][2][]api.Page{{o, nil}, {nil, o}, {o, some}, {some, o}, {o, o}} {
			if l, err := Changes(7, x[0], x[1]); len(l) != 0 || err != api.ErrArg {
				t.Errorf("Changes(7, %#v, %#v) = %#v, %d", x[0], x[1], l, err)
			}
		}
	}
}

// The examples of P7.1 and P7.2.
func TestExamples(t *testing.T) {
	o, err := Put(nil, 30, "abc")
	same(t, o, []api.Page{page1(0, noughts(30)+"ab"), page1(1, "c"+noughts(31))}, err, "Put(no pages, 30, abc)")
	now, err := Cut(o, 32)
	same(t, now, []api.Page{page1(0, noughts(30)+"ab")}, err, "Cut at 32")
	now, err = Put(o, 30, "\x00\x00\x00")
	same(t, now, nil, err, "Put of three zero bytes at 30")
	if n := length(t, o); n != 33 {
		t.Errorf("Length = %d, want 33", n)
	}
	if s := read(t, o, 29, 5); s != "\x00abc\x00" {
		t.Errorf("Bytes(29, 5) = %#v", s)
	}
}

// P7.3

func TestWhatWasPutIsThere(t *testing.T) {
	r := rand.New(rand.NewSource(1))
	for range 3000 {
		o := randomObject(r)
		off, n := randomSpan(r)
		data := randomText(r, n)
		before := read(t, o, 0, 1024)
		now := put(t, o, off, data)
		if !Right(now) {
			t.Fatalf("Put(%#v, %d, %#v) = %#v, that is not an object", o, off, data, now)
		}
		if s := read(t, now, off, n); s != data {
			t.Fatalf("Put(%#v, %d, %#v): %#v is there", o, off, data, s)
		}
		if read(t, now, 0, off) != before[:off] || read(t, now, off+n, 1024-off-n) != before[off+n:] {
			t.Fatalf("Put(%#v, %d, %#v) = %#v: other bytes are changed", o, off, data, now)
		}
		same(t, now, put(t, now, off, data), api.OK, "Put twice")
	}
}

// P7.4

func TestChangesAreLoaded(t *testing.T) {
	r := rand.New(rand.NewSource(2))
	for range 20 {
		s := store(t, others()...)
		was := make([][]api.Page, len(numbers))
		for range 40 {
			i := r.Intn(len(numbers))
			now := randomObject(r)
			if r.Intn(2) == 0 {
				off, n := randomSpan(r)
				now = put(t, was[i], off, randomText(r, min(n, 64)))
			}
			if s.Free() < 33 {
				now = nil
			}
			l, err := Changes(numbers[i]^0x9999, was[i], now)
			if err != api.OK || len(l) > 32 {
				t.Fatalf("Changes = %#v, %d", l, err)
			}
			commit(t, s, l)
			was[i] = now
			for j, o := range was {
				again, err := Load(s, numbers[j]^0x9999)
				same(t, again, o, err, "Load of file %d behind its changes", numbers[j]^0x9999)
			}
		}
	}
}

// P7.5

func TestAnObjectThatWasCut(t *testing.T) {
	r := rand.New(rand.NewSource(3))
	for range 2000 {
		o := randomObject(r)
		n := length(t, o)
		for _, size := range []int{0, r.Intn(1025), r.Intn(33) * 32, max(0, n-1), n, n + 1, n + 32, 1024, 1025, math.MaxInt} {
			now := cut(t, o, size)
			if m := length(t, now); m > size {
				t.Fatalf("Cut(%#v, %d) has the length %d", o, size, m)
			}
			if size >= n && !slices.Equal(now, o) {
				t.Fatalf("Cut(%#v, %d) = %#v, though its length is %d", o, size, now, n)
			}
			if k := min(size, 1024); read(t, now, 0, k) != read(t, o, 0, k) {
				t.Fatalf("Cut(%#v, %d) = %#v: bytes ahead of the cut are changed", o, size, now)
			}
		}
	}
}

// P7.6

func TestTwoPuts(t *testing.T) {
	r := rand.New(rand.NewSource(4))
	overlaps := 0
	for range 4000 {
		o := randomObject(r)
		a, n := randomSpan(r)
		b, m := randomSpan(r)
		x, y := randomText(r, n), randomText(r, m)
		xy, yx := put(t, put(t, o, a, x), b, y), put(t, put(t, o, b, y), a, x)
		if read(t, xy, b, m) != y || read(t, yx, a, n) != x {
			t.Fatalf("%#v at %d and %#v at %d: the later put does not prevail", x, a, y, b)
		}
		if a+n <= b || b+m <= a || n == 0 || m == 0 {
			same(t, xy, yx, api.OK, "%#v at %d and %#v at %d", x, a, y, b)
			continue
		}
		overlaps++
		want := laid(o)
		copy(want[a:], x)
		copy(want[b:], y)
		same(t, xy, taken(want), api.OK, "%#v at %d and then %#v at %d", x, a, y, b)
	}
	if overlaps < 500 {
		t.Errorf("only %d pairs of puts overlapped", overlaps)
	}
}

// Memory: rule 4.

// spare is a copy of a list with room behind it that is filled with pages.
func spare(o []api.Page) []api.Page {
	l := slices.Concat(o, []api.Page{page1(-5, "spare"), page1(77, "room")})
	return l[:len(o)]
}

// inSpare are a list's pages and those in the room behind it.
func inSpare(o []api.Page) []api.Page { return slices.Clone(o[:cap(o)]) }

func TestArgumentsAreLeftAlone(t *testing.T) {
	for _, list := range [][][]api.Page{objects(), wrongLists()} {
		for _, o := range list {
			a, b := spare(o), spare(objects()[14])
			wantA, wantB := inSpare(a), inSpare(b)
			Right(a)
			Bytes(a, 3, 70)
			Put(a, 20, mixed(0, 80))
			Put(a, 0, noughts(1024))
			Cut(a, 40)
			Cut(a, 2000)
			Length(a)
			Changes(1, a, b)
			Changes(1, b, a)
			if !slices.Equal(inSpare(a), wantA) || !slices.Equal(inSpare(b), wantB) {
				t.Errorf("%#v or the room behind it was changed", o)
			}
		}
	}
}

// spoil overwrites a list and the room behind it.
func spoil[T any](l []T) {
	clear(l[:cap(l)])
}

func TestAnswersAreNewMemory(t *testing.T) {
	for _, o := range objects() {
		a := spare(o)
		want := inSpare(a)
		for _, answer := range []func() []api.Page{
			func() []api.Page { return put(t, a, 5, "") },
			func() []api.Page { return put(t, a, 5, "x") },
			func() []api.Page { return cut(t, a, 1024) },
			func() []api.Page { return cut(t, a, 33) },
		} {
			first := answer()
			kept := slices.Clone(first)
			spoil(answer())
			if !slices.Equal(first, kept) || !slices.Equal(inSpare(a), want) {
				t.Errorf("an answer of %#v shares memory", o)
			}
		}
		first := put(t, a, 5, "x")
		kept := slices.Clone(first)
		spoil(a)
		if !slices.Equal(first, kept) {
			t.Errorf("what was put into %#v shares memory with it", o)
		}
	}
}

func TestLoadedObjectsAndChangesAreNewMemory(t *testing.T) {
	for _, o := range objects() {
		r := store(t, rowsOf(7, o)...)
		first, _ := Load(r, 7)
		spoil(first)
		now, err := Load(r, 7)
		same(t, now, o, err, "Load behind an answer that was spoilt")
		was := objects()[13]
		l, _ := Changes(7, was, now)
		spoil(l)
		l, _ = Changes(7, was, now)
		kept := slices.Clone(l)
		spoil(now)
		spoil(was)
		if !slices.Equal(l, kept) || !slices.Equal(kept, changesOf(7, objects()[13], o)) {
			t.Errorf("the changes to %#v share memory", o)
		}
		if len(r.All()) != len(o) {
			t.Errorf("Load changed the rows of %#v", o)
		}
	}
}
