package xdr

import (
	"cmp"
	"math"
	"math/rand"
	"runtime"
	"slices"
	"strings"
	"testing"

	"lamella/api"
)

// item is one thing that is written or read: of a kind, with the value of that kind.
type item struct {
	kind   string
	number uint32
	long   uint64
	flag   bool
	text   string
	list   []uint32
}

// kinds are all that there is to write and read.
var kinds = []string{"number", "long", "flag", "text", "list"}

// write writes an item.
func (x item) write(w *Writer) {
	switch x.kind {
	case "number":
		w.Number(x.number)
	case "long":
		w.Long(x.long)
	case "flag":
		w.Flag(x.flag)
	case "text":
		w.Text(x.text)
	case "list":
		w.List(x.list...)
	}
}

// bytes are those of an item alone.
func (x item) bytes() string {
	var w Writer
	x.write(&w)
	return w.Bytes()
}

// same tells whether two items are the same; a nil list is an empty one.
func (x item) same(y item) bool {
	return x.kind == y.kind && x.number == y.number && x.long == y.long && x.flag == y.flag && x.text == y.text && slices.Equal(x.list, y.list)
}

// read reads an item of a kind, texts and lists of at most most.
func read(r *Reader, kind string, most int) item {
	x := item{kind: kind}
	switch kind {
	case "number":
		x.number = r.Number()
	case "long":
		x.long = r.Long()
	case "flag":
		x.flag = r.Flag()
	case "text":
		x.text = r.Text(most)
	case "list":
		x.list = r.List(most)
	}
	return x
}

// written are the bytes of items, one behind the other.
func written(l []item) string {
	var w Writer
	for _, x := range l {
		x.write(&w)
	}
	return w.Bytes()
}

// encoded is an item with its bytes, as the document's definitions give them.
type encoded struct {
	item  item
	bytes string
}

// examples are items of all kinds, with texts and lists of lengths next to a multiple of four.
func examples() []encoded {
	return []encoded{
		{item{kind: "number", number: 0}, "\x00\x00\x00\x00"},
		{item{kind: "number", number: 1}, "\x00\x00\x00\x01"},
		{item{kind: "number", number: 0x01020304}, "\x01\x02\x03\x04"},
		{item{kind: "number", number: 1 << 31}, "\x80\x00\x00\x00"},
		{item{kind: "number", number: math.MaxUint32}, "\xff\xff\xff\xff"},
		{item{kind: "long", long: 0}, "\x00\x00\x00\x00\x00\x00\x00\x00"},
		{item{kind: "long", long: 1}, "\x00\x00\x00\x00\x00\x00\x00\x01"},
		{item{kind: "long", long: math.MaxUint32}, "\x00\x00\x00\x00\xff\xff\xff\xff"},
		{item{kind: "long", long: 1 << 32}, "\x00\x00\x00\x01\x00\x00\x00\x00"},
		{item{kind: "long", long: 0x0102030405060708}, "\x01\x02\x03\x04\x05\x06\x07\x08"},
		{item{kind: "long", long: math.MaxUint64}, "\xff\xff\xff\xff\xff\xff\xff\xff"},
		{item{kind: "flag", flag: false}, "\x00\x00\x00\x00"},
		{item{kind: "flag", flag: true}, "\x00\x00\x00\x01"},
		{item{kind: "text", text: ""}, "\x00\x00\x00\x00"},
		{item{kind: "text", text: "a"}, "\x00\x00\x00\x01a\x00\x00\x00"},
		{item{kind: "text", text: "ab"}, "\x00\x00\x00\x02ab\x00\x00"},
		{item{kind: "text", text: "abc"}, "\x00\x00\x00\x03abc\x00"},
		{item{kind: "text", text: "abcd"}, "\x00\x00\x00\x04abcd"},
		{item{kind: "text", text: "abcde"}, "\x00\x00\x00\x05abcde\x00\x00\x00"},
		{item{kind: "text", text: "abcdefg"}, "\x00\x00\x00\x07abcdefg\x00"},
		{item{kind: "text", text: "abcdefgh"}, "\x00\x00\x00\x08abcdefgh"},
		{item{kind: "text", text: "\x00"}, "\x00\x00\x00\x01\x00\x00\x00\x00"},
		{item{kind: "text", text: "\x00\x00\x00\x00\x00"}, "\x00\x00\x00\x05\x00\x00\x00\x00\x00\x00\x00\x00"},
		{item{kind: "text", text: "\xff\x80\n\x00\xc3"}, "\x00\x00\x00\x05\xff\x80\n\x00\xc3\x00\x00\x00"},
		{item{kind: "text", text: "ü€"}, "\x00\x00\x00\x05\xc3\xbc\xe2\x82\xac\x00\x00\x00"},
		{item{kind: "list"}, "\x00\x00\x00\x00"},
		{item{kind: "list", list: []uint32{0}}, "\x00\x00\x00\x01\x00\x00\x00\x00"},
		{item{kind: "list", list: []uint32{1, 2}}, "\x00\x00\x00\x02\x00\x00\x00\x01\x00\x00\x00\x02"},
		{item{kind: "list", list: []uint32{math.MaxUint32, 1 << 31, 0x01020304}}, "\x00\x00\x00\x03\xff\xff\xff\xff\x80\x00\x00\x00\x01\x02\x03\x04"},
		{item{kind: "list", list: []uint32{5, 4, 3, 2, 1}}, "\x00\x00\x00\x05\x00\x00\x00\x05\x00\x00\x00\x04\x00\x00\x00\x03\x00\x00\x00\x02\x00\x00\x00\x01"},
	}
}

// someItems are items that a source of numbers chooses.
func someItems(source *rand.Rand) []item {
	var l []item
	for range source.Intn(9) {
		x := item{kind: kinds[source.Intn(len(kinds))]}
		switch x.kind {
		case "number":
			x.number = source.Uint32() >> source.Intn(32)
		case "long":
			x.long = source.Uint64() >> source.Intn(64)
		case "flag":
			x.flag = source.Intn(2) == 1
		case "text":
			b := make([]byte, source.Intn(14))
			source.Read(b)
			x.text = string(b)
		case "list":
			for range source.Intn(5) {
				x.list = append(x.list, source.Uint32())
			}
		}
		l = append(l, x)
	}
	return l
}

// look looks at a reader: its error, and how many bytes it has left.
func look(t *testing.T, r *Reader, err api.Errno, left int, of string) {
	t.Helper()
	if r.Err() != err || r.Left() != left {
		t.Errorf("%q: error %d with %d bytes left, not error %d with %d", of, r.Err(), r.Left(), err, left)
	}
}

// fails reads what can't be read: the zero value, an error, and nothing consumed.
func fails(t *testing.T, s, kind string, most int, err api.Errno) {
	t.Helper()
	r := NewReader(s)
	if x := read(r, kind, most); !x.same(item{kind: kind}) {
		t.Errorf("a %s of at most %d of %q is read as %#v", kind, most, s, x)
	}
	look(t, r, err, len(s), kind+" of "+s)
	if e := r.End(); e != err {
		t.Errorf("a %s of at most %d of %q: End is %d, not %d", kind, most, s, e, err)
	}
}

// reads reads what can be read, to its end.
func reads(t *testing.T, s string, most int, want item) {
	t.Helper()
	r := NewReader(s)
	if x := read(r, want.kind, most); !x.same(want) {
		t.Errorf("a %s of at most %d of %q is read as %#v, not %#v", want.kind, most, s, x, want)
	}
	look(t, r, api.OK, 0, want.kind+" of "+s)
	if e := r.End(); e != api.OK {
		t.Errorf("a %s of at most %d of %q: End is %d", want.kind, most, s, e)
	}
}

// P2.1

func TestWriterWritesEachEncoding(t *testing.T) {
	for _, x := range examples() {
		if s := x.item.bytes(); s != x.bytes {
			t.Errorf("%#v is written as %q, not %q", x.item, s, x.bytes)
		}
	}
}

func TestWriterAppends(t *testing.T) {
	var w Writer
	want := ""
	for range 3 {
		for _, x := range examples() {
			x.item.write(&w)
			want += x.bytes
			if w.Bytes() != want {
				t.Fatalf("behind %#v: %q, not %q", x.item, w.Bytes(), want)
			}
		}
	}
}

func TestWriterOfNothing(t *testing.T) {
	var w Writer
	if s := w.Bytes(); s != "" {
		t.Errorf("the zero value has the bytes %q", s)
	}
	if s := new(Writer).Bytes(); s != "" {
		t.Errorf("a new writer has the bytes %q", s)
	}
}

func TestWriterTellsItsBytesOften(t *testing.T) {
	var w Writer
	w.Text("abcde")
	first := w.Bytes()
	if again := w.Bytes(); again != first {
		t.Errorf("first %q, then %q", first, again)
	}
	w.Number(7)
	if first != "\x00\x00\x00\x05abcde\x00\x00\x00" {
		t.Errorf("what was told became %q", first)
	}
	if now := w.Bytes(); now != first+"\x00\x00\x00\x07" {
		t.Errorf("then %q", now)
	}
}

func TestWritersAreApart(t *testing.T) {
	var a, b Writer
	a.Number(1)
	b.Number(2)
	a.Number(3)
	if a.Bytes() != "\x00\x00\x00\x01\x00\x00\x00\x03" || b.Bytes() != "\x00\x00\x00\x02" {
		t.Errorf("%q and %q", a.Bytes(), b.Bytes())
	}
}

func TestNilWriter(t *testing.T) {
	var w *Writer
	for _, x := range examples() {
		x.item.write(w)
		if s := w.Bytes(); s != "" {
			t.Errorf("behind %#v a nil writer has the bytes %q", x.item, s)
		}
	}
}

func TestWriterOfGreatLengths(t *testing.T) {
	for _, n := range []int{254, 255, 256, 257, 65535, 65536, 65537, 1<<24 + 1} {
		s := strings.Repeat("x", n)
		head := string([]byte{byte(n >> 24), byte(n >> 16), byte(n >> 8), byte(n)})
		want := head + s + "\x00\x00\x00"[:(n+3)/4*4-n]
		if got := (item{kind: "text", text: s}).bytes(); got != want {
			t.Errorf("a text of %d bytes has %d bytes, which begin with %q", n, len(got), got[:8])
		}
	}
	for _, n := range []int{255, 256, 65535, 65536, 65537} {
		head := string([]byte{byte(n >> 24), byte(n >> 16), byte(n >> 8), byte(n)})
		want := head + strings.Repeat("\x00\x00\x00\x00", n)
		if got := (item{kind: "list", list: make([]uint32, n)}).bytes(); got != want {
			t.Errorf("a list of %d numbers has %d bytes, which begin with %q", n, len(got), got[:8])
		}
	}
}

func TestWriterLeavesItsListAlone(t *testing.T) {
	l := []uint32{1, 2, 3, 4}
	var w Writer
	w.List(l[:2]...)
	if !slices.Equal(l, []uint32{1, 2, 3, 4}) {
		t.Errorf("the list became %#v", l)
	}
	l[0], l[1] = 9, 9
	w.List()
	if s := w.Bytes(); s != "\x00\x00\x00\x02\x00\x00\x00\x01\x00\x00\x00\x02\x00\x00\x00\x00" {
		t.Errorf("the list was kept: %q", s)
	}
}

// P2.2: what can be read

func TestReaderReadsEachEncoding(t *testing.T) {
	for _, x := range examples() {
		reads(t, x.bytes, math.MaxInt, x.item)
	}
}

func TestReaderConsumesOneBehindTheOther(t *testing.T) {
	s := ""
	for _, x := range examples() {
		s += x.bytes
	}
	r := NewReader(s)
	left := len(s)
	for _, x := range examples() {
		look(t, r, api.OK, left, "ahead of "+x.bytes)
		if got := read(r, x.item.kind, 8); !got.same(x.item) {
			t.Errorf("%#v is read as %#v", x.item, got)
		}
		left -= len(x.bytes)
		look(t, r, api.OK, left, "behind "+x.bytes)
	}
	if e := r.End(); e != api.OK {
		t.Errorf("End is %d", e)
	}
}

func TestReaderReadsUpToMost(t *testing.T) {
	for n := range 10 {
		s, l := strings.Repeat("z", n), make([]uint32, n)
		for i := range l {
			l[i] = uint32(i + 1)
		}
		for _, x := range []item{{kind: "text", text: s}, {kind: "list", list: l}} {
			for _, most := range []int{n, n + 1, 100, math.MaxInt32, math.MaxUint32, math.MaxInt} {
				reads(t, x.bytes(), most, x)
			}
		}
	}
}

func TestReaderOfFirstEncodingOnly(t *testing.T) {
	r := NewReader("\x00\x00\x00\x01\x00\x00\x00\x00")
	if !r.Flag() {
		t.Error("the flag is false")
	}
	look(t, r, api.OK, 4, "behind the flag")
	if s := r.Text(0); s != "" {
		t.Errorf("the text is %q", s)
	}
	look(t, r, api.OK, 0, "behind the text")
}

func TestReadersAreApart(t *testing.T) {
	s := "\x00\x00\x00\x01\x00\x00\x00\x02"
	a, b := NewReader(s), NewReader(s)
	if a.Number() != 1 || a.Number() != 2 || a.Number() != 0 || b.Number() != 1 {
		t.Error("one reader steps on with the other")
	}
	look(t, a, api.ErrShort, 0, "the first reader")
	look(t, b, api.OK, 4, "the second reader")
}

func TestReaderMakesNewLists(t *testing.T) {
	r := NewReader("\x00\x00\x00\x01\x00\x00\x00\x05\x00\x00\x00\x01\x00\x00\x00\x06")
	a := r.List(1)
	a = append(a, 7)
	a[0] = 8
	b := r.List(1)
	if !slices.Equal(b, []uint32{6}) || !slices.Equal(a, []uint32{8, 7}) {
		t.Errorf("the lists are %#v and %#v", a, b)
	}
	if e := r.End(); e != api.OK {
		t.Errorf("End is %d", e)
	}
}

// P2.2: bytes that are missing

func TestReaderMissesBytesAtEachPlace(t *testing.T) {
	for _, x := range examples() {
		for n := range len(x.bytes) {
			fails(t, x.bytes[:n], x.item.kind, math.MaxInt, api.ErrShort)
		}
	}
}

func TestReaderMissesBytesBehindOthers(t *testing.T) {
	for _, x := range examples() {
		for n := range len(x.bytes) {
			r := NewReader("\x00\x00\x00\x07" + x.bytes[:n])
			if k := r.Number(); k != 7 {
				t.Errorf("the number is %d", k)
			}
			if got := read(r, x.item.kind, 8); !got.same(item{kind: x.item.kind}) {
				t.Errorf("%q is read as %#v", x.bytes[:n], got)
			}
			look(t, r, api.ErrShort, n, x.bytes[:n])
		}
	}
}

func TestReaderOfLengthFarGreater(t *testing.T) {
	var before, after runtime.MemStats
	runtime.ReadMemStats(&before)
	for _, n := range []uint32{5, 1000, 1 << 16, 1<<30 - 1, 1 << 30, 1<<30 + 1, 1<<31 - 1, 1 << 31, 1<<32 - 5, 1<<32 - 4, 1<<32 - 3, 1<<32 - 2, 1<<32 - 1} {
		for _, rest := range []string{"", "\x00", "\x00\x00\x00\x00", "abcd", "\x00\x00\x00\x01\x00\x00"} {
			s := (item{kind: "number", number: n}).bytes() + rest
			if uint64(len(rest)) >= uint64(n) {
				continue
			}
			for _, most := range []int{math.MaxUint32, math.MaxInt} {
				fails(t, s, "text", most, api.ErrShort)
				fails(t, s, "list", most, api.ErrShort)
			}
			fails(t, s, "text", int(n)-1, api.ErrMore)
			fails(t, s, "list", int(n)-1, api.ErrMore)
		}
	}
	runtime.ReadMemStats(&after)
	if took := after.TotalAlloc - before.TotalAlloc; took > 1<<22 {
		t.Errorf("lengths without their bytes took %d bytes of memory", took)
	}
}

// P2.2: bytes of a wrong form

func TestReaderOfFlagThatIsNone(t *testing.T) {
	for _, n := range []uint32{2, 3, 0x100, 0x101, 0x10000, 0x1000000, 0x1000001, 1 << 31, 1<<31 + 1, math.MaxUint32} {
		s := (item{kind: "number", number: n}).bytes()
		fails(t, s, "flag", 0, api.ErrForm)
		fails(t, s+"\x00\x00\x00\x01", "flag", 0, api.ErrForm)
	}
}

func TestReaderOfPaddingThatIsNotZero(t *testing.T) {
	for n := 1; n < 12; n++ {
		s := (item{kind: "text", text: strings.Repeat("y", n)}).bytes()
		for i := 4 + n; i < len(s); i++ {
			for _, x := range []string{"\x01", "\x80", "\xff", "y"} {
				wrong := s[:i] + x + s[i+1:]
				fails(t, wrong, "text", n, api.ErrForm)
				fails(t, wrong+"\x00\x00\x00\x01", "text", math.MaxInt, api.ErrForm)
			}
		}
	}
}

func TestReaderLooksAtPaddingOnlyWhenItIsWhole(t *testing.T) {
	for _, s := range []string{"\x00\x00\x00\x01a\x01", "\x00\x00\x00\x01a\x00\x01", "\x00\x00\x00\x02ab\x01", "\x00\x00\x00\x05abcde\xff\xff"} {
		fails(t, s, "text", 5, api.ErrShort)
	}
}

func TestReaderDoesNotPadWholeTexts(t *testing.T) {
	r := NewReader("\x00\x00\x00\x04abcd\xff\xff\xff\xff")
	if s := r.Text(4); s != "abcd" {
		t.Errorf("the text is %q", s)
	}
	look(t, r, api.OK, 4, "behind the text")
}

// P2.2: more than most

func TestReaderOfMoreThanMost(t *testing.T) {
	for n := 1; n < 10; n++ {
		l := make([]uint32, n)
		for _, x := range []item{{kind: "text", text: strings.Repeat("z", n)}, {kind: "list", list: l}} {
			for _, most := range []int{n - 1, n / 2, 0, -1, -n, math.MinInt32, math.MinInt} {
				fails(t, x.bytes(), x.kind, most, api.ErrMore)
			}
		}
	}
}

func TestReaderOfMostZeroOrLess(t *testing.T) {
	for _, kind := range []string{"text", "list"} {
		empty := item{kind: kind}
		reads(t, empty.bytes(), 0, empty)
		for _, most := range []int{-1, -2, -4, math.MinInt32, math.MinInt + 1, math.MinInt} {
			fails(t, empty.bytes(), kind, most, api.ErrMore)
		}
		for _, most := range []int{0, -1, math.MinInt} {
			for _, s := range []string{"", "\x00", "\x00\x00", "\x00\x00\x00", "\xff\xff\xff"} {
				fails(t, s, kind, most, api.ErrShort)
			}
		}
	}
}

func TestReaderLooksAtMostFirst(t *testing.T) {
	for _, s := range []string{"\x00\x00\x00\x03", "\x00\x00\x00\x03a", "\x00\x00\x00\x03abc", "\x00\x00\x00\x03abc\x01", "\x00\x00\x00\x03abc\x00"} {
		for _, most := range []int{2, 0, -1} {
			fails(t, s, "text", most, api.ErrMore)
			fails(t, s, "list", most, api.ErrMore)
		}
	}
}

// P2.2: behind an error

// failed are readers with each of the errors, what they have left, and how they came to it.
func failed() []struct {
	of   string
	r    *Reader
	err  api.Errno
	left int
} {
	good := "\x00\x00\x00\x01\x00\x00\x00\x00\x00\x00\x00\x00"
	missing := NewReader("\x00\x00\x00\x01\x00\x00\x00")
	missing.Long()
	flag := NewReader("\x00\x00\x00\x02" + good)
	flag.Flag()
	padding := NewReader("\x00\x00\x00\x01abcd" + good)
	padding.Text(1)
	text := NewReader(good)
	text.Text(0)
	list := NewReader(good)
	list.List(0)
	end := NewReader(good)
	end.End()
	return []struct {
		of   string
		r    *Reader
		err  api.Errno
		left int
	}{
		{"missing bytes", missing, api.ErrShort, 7},
		{"a flag", flag, api.ErrForm, 16},
		{"padding", padding, api.ErrForm, 20},
		{"a long text", text, api.ErrMore, 12},
		{"a long list", list, api.ErrMore, 12},
		{"an end with bytes left", end, api.ErrMore, 12},
	}
}

func TestReaderKeepsItsFirstError(t *testing.T) {
	for _, kind := range kinds {
		for _, most := range []int{math.MaxInt, 0, -1} {
			for _, x := range failed() {
				look(t, x.r, x.err, x.left, x.of)
				for range 2 {
					if got := read(x.r, kind, most); !got.same(item{kind: kind}) {
						t.Errorf("behind %s a %s is read: %#v", x.of, kind, got)
					}
					look(t, x.r, x.err, x.left, "a "+kind+" behind "+x.of)
				}
				if e := x.r.End(); e != x.err {
					t.Errorf("behind %s the End is %d", x.of, e)
				}
				look(t, x.r, x.err, x.left, "the end behind "+x.of)
			}
		}
	}
}

func TestReaderThatFailsAtItsEndHasNothingLeft(t *testing.T) {
	for _, kind := range kinds {
		r := NewReader("\x00\x00\x00\x01")
		r.Number()
		if e := r.End(); e != api.OK {
			t.Errorf("End is %d", e)
		}
		if x := read(r, kind, 8); !x.same(item{kind: kind}) {
			t.Errorf("behind the end a %s is read: %#v", kind, x)
		}
		look(t, r, api.ErrShort, 0, "a "+kind+" behind the end")
		if e := r.End(); e != api.ErrShort {
			t.Errorf("behind a %s the End is %d", kind, e)
		}
	}
}

// P2.2: the end, what is left, and nil

func TestEndWithBytesLeft(t *testing.T) {
	for n := 1; n < 10; n++ {
		s := strings.Repeat("\x00", n)
		r := NewReader("\x00\x00\x00\x09" + s)
		r.Number()
		look(t, r, api.OK, n, "ahead of the end")
		for range 2 {
			if e := r.End(); e != api.ErrMore {
				t.Errorf("with %d bytes left the End is %d", n, e)
			}
			look(t, r, api.ErrMore, n, "behind the end")
		}
		if k := r.Number(); k != 0 {
			t.Errorf("behind the end the number is %d", k)
		}
		look(t, r, api.ErrMore, n, "a number behind the end")
	}
}

func TestEndOfNothing(t *testing.T) {
	r := NewReader("")
	look(t, r, api.OK, 0, "a reader of nothing")
	for range 2 {
		if e := r.End(); e != api.OK {
			t.Errorf("End is %d", e)
		}
		look(t, r, api.OK, 0, "behind the end of nothing")
	}
}

func TestEndTellsNoErrorThatIsNotThere(t *testing.T) {
	r := NewReader("\x00\x00\x00\x01")
	if r.Number() != 1 || r.End() != api.OK || r.End() != api.OK {
		t.Error("a number alone is not read to its end")
	}
	look(t, r, api.OK, 0, "behind the end")
}

func TestNilReader(t *testing.T) {
	var r *Reader
	look(t, r, api.ErrShort, 0, "a nil reader")
	for _, kind := range kinds {
		for _, most := range []int{math.MaxInt, 0, -1} {
			if x := read(r, kind, most); !x.same(item{kind: kind}) {
				t.Errorf("of a nil reader a %s is read: %#v", kind, x)
			}
			look(t, r, api.ErrShort, 0, "a nil reader behind a "+kind)
		}
	}
	if e := r.End(); e != api.ErrShort {
		t.Errorf("the End of a nil reader is %d", e)
	}
}

// P2.3

func TestWhatWasWrittenIsReadAsItWas(t *testing.T) {
	source := rand.New(rand.NewSource(3))
	for range 3000 {
		l := someItems(source)
		r := NewReader(written(l))
		for _, x := range l {
			if got := read(r, x.kind, max(len(x.text), len(x.list))); !got.same(x) {
				t.Fatalf("of %#v: %#v is read as %#v", l, x, got)
			}
		}
		if e := r.End(); e != api.OK {
			t.Fatalf("of %#v: End is %d", l, e)
		}
	}
}

func TestAllBytesOfTextsAreReadAsTheyWere(t *testing.T) {
	for b := range 256 {
		for n := range 6 {
			x := item{kind: "text", text: strings.Repeat(string([]byte{byte(b)}), n)}
			reads(t, x.bytes(), n, x)
		}
	}
}

// P2.4

// scripts are the kinds that are read one after the other.
func scripts() [][]string {
	l := [][]string{{}}
	for _, a := range kinds {
		l = append(l, []string{a})
		for _, b := range kinds {
			l = append(l, []string{a, b})
			for _, c := range kinds {
				l = append(l, []string{a, b, c})
			}
		}
	}
	return l
}

// readAll reads the bytes as a script says, to their end.
func readAll(s string, script []string) ([]item, api.Errno) {
	r := NewReader(s)
	var l []item
	for _, kind := range script {
		l = append(l, read(r, kind, math.MaxInt))
	}
	return l, r.End()
}

func TestWhatWasReadIsWrittenAsItWas(t *testing.T) {
	parts := []string{"\x00\x00\x00\x00", "\x00\x00\x00\x01", "\x00\x00\x00\x02", "\x00\x00\x00\x03", "\x00\x00\x00\x05", "a\x00\x00\x00", "a\x00\x00\x01", "a\x01\x00\x00", "abc\x00", "abcd", "\x01\x00\x00\x00", "\x00"}
	inputs := []string{""}
	for first := 0; len(inputs) < 1+12+144+1728; first++ {
		for _, part := range parts {
			inputs = append(inputs, inputs[first]+part)
		}
	}
	ended := 0
	for _, s := range inputs {
		for _, script := range scripts() {
			l, e := readAll(s, script)
			if e != api.OK {
				continue
			}
			ended++
			if again := written(l); again != s {
				t.Errorf("%q is read by %#v as %#v, which is written as %q", s, script, l, again)
			}
		}
	}
	if ended < 2000 {
		t.Errorf("only %d were read to the end", ended)
	}
}

// P2.5

func TestLengthsAreMultiplesOfFour(t *testing.T) {
	source := rand.New(rand.NewSource(5))
	for range 1000 {
		var w Writer
		for _, x := range someItems(source) {
			x.write(&w)
			if n := len(w.Bytes()); n%4 != 0 {
				t.Fatalf("behind %#v there are %d bytes", x, n)
			}
		}
	}
	for n := range 300 {
		if got := len((item{kind: "text", text: strings.Repeat("p", n)}).bytes()); got != 4+(n+3)/4*4 {
			t.Errorf("a text of %d bytes has %d bytes", n, got)
		}
	}
}

// P2.6

func TestWhatIsTruncatedIsNotReadToItsEnd(t *testing.T) {
	source := rand.New(rand.NewSource(6))
	for range 1000 {
		l := someItems(source)
		s := written(l)
		for n := range len(s) {
			r := NewReader(s[:n])
			for _, x := range l {
				read(r, x.kind, max(len(x.text), len(x.list)))
			}
			if e := r.End(); e != api.ErrShort || r.Err() != api.ErrShort {
				t.Fatalf("of %#v, %d of %d bytes: End is %d", l, n, len(s), e)
			}
		}
	}
}

// P2.7

func TestNumbersHaveTheOrderOfTheirEncodings(t *testing.T) {
	numbers := []uint32{0, 1, 2, 127, 128, 255, 256, 257, 65535, 65536, 1<<24 - 1, 1 << 24, 0x01020304, 0x04030201, 1<<31 - 1, 1 << 31, math.MaxUint32 - 1, math.MaxUint32}
	for _, a := range numbers {
		for _, b := range numbers {
			if strings.Compare(item{kind: "number", number: a}.bytes(), item{kind: "number", number: b}.bytes()) != cmp.Compare(a, b) {
				t.Errorf("%d and %d have another order than their bytes", a, b)
			}
		}
	}
}

func TestLongNumbersHaveTheOrderOfTheirEncodings(t *testing.T) {
	longs := []uint64{0, 1, 255, 256, 65536, math.MaxUint32 - 1, math.MaxUint32, 1 << 32, 1<<32 + 1, 1 << 40, 0x0102030405060708, 0x0807060504030201, 1<<63 - 1, 1 << 63, math.MaxUint64 - 1, math.MaxUint64}
	for _, a := range longs {
		for _, b := range longs {
			if strings.Compare(item{kind: "long", long: a}.bytes(), item{kind: "long", long: b}.bytes()) != cmp.Compare(a, b) {
				t.Errorf("%d and %d have another order than their bytes", a, b)
			}
		}
	}
}
