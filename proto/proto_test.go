package proto

import (
	"encoding/binary"
	"math"
	"math/rand"
	"runtime"
	"strings"
	"testing"

	"lamella/api"
)

// top is the greatest number of layer 2.
const top = math.MaxUint32

// codes are api's.
var codes = []int{
	api.OpWrite, api.OpRead, api.OpCommit, api.OpFence, api.OpFree,
	api.OpOpen, api.OpClose, api.OpMkdir, api.OpRemove, api.OpRmdir, api.OpRename, api.OpList, api.OpStat, api.OpSize, api.OpGet, api.OpReturn, api.OpGrew, api.OpGive, api.OpTake,
	api.OpRecall,
}

// far are ints that no field of a packet can have: less than 0, great, and such as would be right if they were cut to 32, 16 or 8 bits.
var far = []int{
	math.MinInt, math.MinInt + 1, math.MinInt + 2, -1 << 33, -1<<32 + 1, -1 << 32, math.MinInt32 - 1, math.MinInt32, math.MinInt32 + 1, -1<<16 + 1, -1 << 16, -257, -256, -255, -31, -30, -26, -25, -3, -2, -1,
	256, 257, 258, 259, 256 + 25, 256 + 30, 511, 512, 1000, 1<<16 - 1, 1 << 16, 1<<16 + 1, 1<<16 + 3, math.MaxInt32, 1 << 31, 1<<31 + 1, top - 1, top, 1 << 32, 1<<32 + 1, 1<<32 + 2, 1<<32 + 3, 1<<32 + 30, 1 << 33, math.MaxInt - 1, math.MaxInt,
}

// wide are numbers: the least, the greatest, some at which a narrower or a signed number would wrap round, and such as have other bytes in another order.
var wide = []uint32{0, 1, 2, 3, 0x7f, 0x80, 0xff, 0x100, 0x7fff, 0xffff, 0x10000, 0x01020304, 0x04030201, 0x00ffff00, 0x7fffffff, 0x80000000, 0x80000001, 0xff000000, top - 1, top}

// ints are the fields of a packet that are ints there, with their place in its bytes.
var ints = []struct {
	name  string
	place int
	set   func(p *api.Packet, n int)
}{
	{"Kind", 0, func(p *api.Packet, n int) { p.Kind = n }},
	{"From", 1, func(p *api.Packet, n int) { p.From = n }},
	{"To", 2, func(p *api.Packet, n int) { p.To = n }},
	{"Code", 7, func(p *api.Packet, n int) { p.Op.Code = n }},
	{"Err", 8, func(p *api.Packet, n int) { p.Op.Err = api.Errno(n) }},
}

// plain are the fields of a packet that may be any number, with their place in its bytes.
var plain = []struct {
	name  string
	place int
	at    func(p *api.Packet) *uint32
}{
	{"Life", 3, func(p *api.Packet) *uint32 { return &p.Life }},
	{"Seq", 4, func(p *api.Packet) *uint32 { return &p.Seq }},
	{"Asked", 5, func(p *api.Packet) *uint32 { return &p.Asked }},
	{"Boot", 6, func(p *api.Packet) *uint32 { return &p.Boot }},
	{"File", 9, func(p *api.Packet) *uint32 { return &p.Op.File }},
	{"Epoch", 10, func(p *api.Packet) *uint32 { return &p.Op.Epoch }},
	{"Off", 11, func(p *api.Packet) *uint32 { return &p.Op.Off }},
	{"Len", 12, func(p *api.Packet) *uint32 { return &p.Op.Len }},
	{"Size", 13, func(p *api.Packet) *uint32 { return &p.Op.Size }},
	{"Mode", 14, func(p *api.Packet) *uint32 { return &p.Op.Mode }},
	{"Deny", 15, func(p *api.Packet) *uint32 { return &p.Op.Deny }},
	{"Handle", 16, func(p *api.Packet) *uint32 { return &p.Op.Handle }},
}

// strs are the strings of a packet, with their place in its bytes and how many bytes they have at most.
var strs = []struct {
	name  string
	place int
	most  int
	at    func(p *api.Packet) *string
}{
	{"Path", 17, 64, func(p *api.Packet) *string { return &p.Op.Path }},
	{"Other", 18, 64, func(p *api.Packet) *string { return &p.Op.Other }},
	{"Data", 19, 128, func(p *api.Packet) *string { return &p.Op.Data }},
}

// ask, reply and call are packets of the three kinds, whose fields all differ.
func ask() api.Packet {
	return api.Packet{Kind: 1, From: 17, To: 4, Life: 5, Seq: 6, Asked: 7, Boot: 8, Op: api.Op{Code: 1, File: 10, Epoch: 11, Off: 12, Len: 13, Size: 14, Mode: 15, Deny: 16, Handle: 18, Path: "/a", Other: "/b/c", Data: "hello"}}
}

func reply() api.Packet {
	p := ask()
	p.Kind, p.Op.Code, p.Op.Err = 2, 18, 9
	return p
}

func call() api.Packet {
	p := ask()
	p.Kind, p.Op.Code = 3, 30
	return p
}

// bare is a packet with empty strings, whose other numbers are 0.
func bare() api.Packet { return api.Packet{Kind: 1, Op: api.Op{Code: 1}} }

// three are packets of each kind.
func three() []api.Packet { return []api.Packet{ask(), reply(), call()} }

// changed is a packet that is changed.
func changed(p api.Packet, change func(p *api.Packet)) api.Packet {
	change(&p)
	return p
}

// mixed is a string of n bytes of all values.
func mixed(n int) string {
	b := make([]byte, n)
	for i := range b {
		b[i] = byte(251 * (i + 1))
	}
	return string(b)
}

// may is what the chapter says of a valid packet, one sentence after the other.
func may(p api.Packet) bool {
	is := p.Kind == 1 || p.Kind == 2 || p.Kind == 3
	is = is && 0 <= p.From && p.From <= 255 && 0 <= p.To && p.To <= 255
	known := false
	for _, c := range codes {
		known = known || c == p.Op.Code
	}
	is = is && known
	if p.Kind == 3 {
		is = is && p.Op.Code == 30
	} else {
		is = is && p.Op.Code != 30
	}
	is = is && 0 <= p.Op.Err && p.Op.Err <= 25
	if p.Kind != 2 {
		is = is && p.Op.Err == 0
	}
	return is && len(p.Op.Path) <= 64 && len(p.Op.Other) <= 64 && len(p.Op.Data) <= 128
}

// num and str are the bytes of a number and of a string.
func num(n uint32) string { return string(binary.BigEndian.AppendUint32(nil, n)) }

func str(s string) string {
	return num(uint32(len(s))) + s + strings.Repeat("\x00", (4-len(s)%4)%4)
}

// parts are the bytes of each of a packet's fields, in their order.
type parts [20]string

// split is a packet's bytes, field by field.
func split(p api.Packet) parts {
	o := p.Op
	return parts{
		num(uint32(p.Kind)), num(uint32(p.From)), num(uint32(p.To)), num(p.Life), num(p.Seq), num(p.Asked), num(p.Boot),
		num(uint32(o.Code)), num(uint32(o.Err)), num(o.File), num(o.Epoch), num(o.Off), num(o.Len), num(o.Size), num(o.Mode), num(o.Deny), num(o.Handle),
		str(o.Path), str(o.Other), str(o.Data),
	}
}

// bytes are those of all fields.
func (x parts) bytes() string { return strings.Join(x[:], "") }

// with is parts of which one is another one.
func (x parts) with(place int, s string) parts {
	x[place] = s
	return x
}

// laid are a packet's bytes.
func laid(p api.Packet) string { return split(p).bytes() }

// told is what the chapter says that bytes are read as, step by step.
func told(s string) (api.Packet, api.Errno) {
	var n [17]uint32
	for i := range n {
		if len(s) < 4 {
			return api.Packet{}, api.ErrShort
		}
		n[i] = binary.BigEndian.Uint32([]byte(s))
		s = s[4:]
	}
	var t [3]string
	for i, most := range []uint32{64, 64, 128} {
		if len(s) < 4 {
			return api.Packet{}, api.ErrShort
		}
		k := binary.BigEndian.Uint32([]byte(s))
		if k > most {
			return api.Packet{}, api.ErrMore
		}
		behind := s[4:]
		padded := (int(k) + 3) / 4 * 4
		if len(behind) < padded {
			return api.Packet{}, api.ErrShort
		}
		if strings.Trim(behind[k:padded], "\x00") != "" {
			return api.Packet{}, api.ErrForm
		}
		t[i], s = behind[:k], behind[padded:]
	}
	if s != "" {
		return api.Packet{}, api.ErrMore
	}
	p := api.Packet{Kind: int(n[0]), From: int(n[1]), To: int(n[2]), Life: n[3], Seq: n[4], Asked: n[5], Boot: n[6], Op: api.Op{
		Code: int(n[7]), Err: api.Errno(n[8]), File: n[9], Epoch: n[10], Off: n[11], Len: n[12], Size: n[13], Mode: n[14], Deny: n[15], Handle: n[16],
		Path: t[0], Other: t[1], Data: t[2],
	}}
	if !may(p) {
		return api.Packet{}, api.ErrForm
	}
	return p, api.OK
}

// is looks that a packet may be: that it has its bytes, and that these are read as it.
func is(t *testing.T, p api.Packet) {
	t.Helper()
	if !Right(p) {
		t.Fatalf("Right(%#v) is false", p)
	}
	s, err := Write(p)
	if s != laid(p) || err != api.OK {
		t.Fatalf("Write(%#v) = %q, %d, want %q", p, s, err, laid(p))
	}
	if q, err := Read(s); q != p || err != api.OK {
		t.Fatalf("Read(%q) = %#v, %d, want %#v", s, q, err, p)
	}
}

// isNot looks that a packet may not be.
func isNot(t *testing.T, p api.Packet) {
	t.Helper()
	if Right(p) {
		t.Fatalf("Right(%#v) is true", p)
	}
	if s, err := Write(p); s != "" || err != api.ErrArg {
		t.Fatalf("Write(%#v) = %q, %d, want ErrArg", p, s, err)
	}
}

// check looks at a packet of which the chapter's words say whether it may be.
func check(t *testing.T, p api.Packet) {
	t.Helper()
	if may(p) {
		is(t, p)
	} else {
		isNot(t, p)
	}
}

// fails looks that bytes are read as an error.
func fails(t *testing.T, s string, want api.Errno) {
	t.Helper()
	if p, err := Read(s); p != (api.Packet{}) || err != want {
		t.Fatalf("Read(%q) = %#v, %d, want error %d", s, p, err, want)
	}
}

// packets are such as may be: of each kind and code, and at each edge.
func packets() []api.Packet {
	l := append(three(), bare())
	for _, c := range codes {
		for kind := 1; kind <= 3; kind++ {
			p := changed(ask(), func(p *api.Packet) { p.Kind, p.Op.Code = kind, c })
			if (c == 30) == (kind == 3) {
				l = append(l, p)
			}
		}
	}
	for _, p := range three() {
		for _, n := range []int{0, 1, 16, 17, 20, 127, 128, 254, 255} {
			l = append(l, changed(p, func(p *api.Packet) { p.From = n }), changed(p, func(p *api.Packet) { p.To = n }), changed(p, func(p *api.Packet) { p.From, p.To = n, n }))
		}
		for _, f := range plain {
			for _, n := range wide {
				l = append(l, changed(p, func(p *api.Packet) { *f.at(p) = n }))
			}
		}
		for _, f := range strs {
			for n := 0; n <= f.most; n++ {
				l = append(l, changed(p, func(p *api.Packet) { *f.at(p) = mixed(n) }))
			}
		}
	}
	for e := range 26 {
		l = append(l, changed(reply(), func(p *api.Packet) { p.Op.Err = api.Errno(e) }))
	}
	return append(l, fullest())
}

// fullest is a packet whose fields all have their greatest value.
func fullest() api.Packet {
	return api.Packet{Kind: 2, From: 255, To: 255, Life: top, Seq: top, Asked: top, Boot: top, Op: api.Op{
		Code: 24, Err: 25, File: top, Epoch: top, Off: top, Len: top, Size: top, Mode: top, Deny: top, Handle: top,
		Path: strings.Repeat("\xff", 64), Other: strings.Repeat("\xff", 64), Data: strings.Repeat("\xff", 128),
	}}
}

// randomPacket is one that may be.
func randomPacket(r *rand.Rand) api.Packet {
	number := func() uint32 { return r.Uint32() >> r.Intn(33) }
	p := api.Packet{Kind: 1 + r.Intn(3), From: r.Intn(256), To: r.Intn(256), Life: number(), Seq: number(), Asked: number(), Boot: number(), Op: api.Op{
		Code: codes[r.Intn(len(codes)-1)], File: number(), Epoch: number(), Off: number(), Len: number(), Size: number(), Mode: number(), Deny: number(), Handle: number(),
	}}
	if p.Kind == 3 {
		p.Op.Code = 30
	}
	if p.Kind == 2 {
		p.Op.Err = api.Errno(r.Intn(26))
	}
	p.Op.Path, p.Op.Other, p.Op.Data = randomText(r, 64), randomText(r, 64), randomText(r, 128)
	return p
}

// randomText is a text of any bytes, often zero ones, of at most most.
func randomText(r *rand.Rand, most int) string {
	b := make([]byte, r.Intn(most+1))
	if r.Intn(3) > 0 {
		b = b[:min(len(b), r.Intn(6))]
	}
	for i := range b {
		if r.Intn(3) > 0 {
			b[i] = byte(r.Intn(256))
		}
	}
	return string(b)
}

// P9.1

func TestTheExample(t *testing.T) {
	s, err := Write(bare())
	if len(s) != 80 || err != api.OK {
		t.Errorf("a packet with empty strings has %d bytes, error %d", len(s), err)
	}
	is(t, bare())
}

func TestWriteOfAllFields(t *testing.T) {
	p := api.Packet{Kind: 2, From: 3, To: 255, Life: 0x01020304, Seq: 5, Asked: 6, Boot: 7, Op: api.Op{
		Code: 20, Err: 25, File: 8, Epoch: 9, Off: 10, Len: 11, Size: 12, Mode: 13, Deny: 14, Handle: 0xfffefdfc,
		Path: "/abcd", Other: "", Data: "\x00\xff",
	}}
	want := "\x00\x00\x00\x02" + "\x00\x00\x00\x03" + "\x00\x00\x00\xff" +
		"\x01\x02\x03\x04" + "\x00\x00\x00\x05" + "\x00\x00\x00\x06" + "\x00\x00\x00\x07" +
		"\x00\x00\x00\x14" + "\x00\x00\x00\x19" +
		"\x00\x00\x00\x08" + "\x00\x00\x00\x09" + "\x00\x00\x00\x0a" + "\x00\x00\x00\x0b" + "\x00\x00\x00\x0c" + "\x00\x00\x00\x0d" + "\x00\x00\x00\x0e" + "\xff\xfe\xfd\xfc" +
		"\x00\x00\x00\x05/abcd\x00\x00\x00" + "\x00\x00\x00\x00" + "\x00\x00\x00\x02\x00\xff\x00\x00"
	if s, err := Write(p); s != want || err != api.OK {
		t.Errorf("Write(%#v) = %q, %d, want %q", p, s, err, want)
	}
	if q, err := Read(want); q != p || err != api.OK {
		t.Errorf("Read(%q) = %#v, %d, want %#v", want, q, err, p)
	}
}

func TestPacketsThatMayBe(t *testing.T) {
	for _, p := range packets() {
		if !may(p) {
			t.Fatalf("%#v is none of the chapter's packets", p)
		}
		is(t, p)
	}
}

func TestPacketsOfAllKindsAndCodes(t *testing.T) {
	many := append([]int{}, far...)
	for n := range 300 {
		many = append(many, n-20)
	}
	for _, kind := range many {
		for _, code := range many {
			for _, e := range []api.Errno{0, 7} {
				check(t, changed(ask(), func(p *api.Packet) { p.Kind, p.Op.Code, p.Op.Err = kind, code, e }))
			}
		}
	}
}

func TestNoPacketIsOfAnotherKind(t *testing.T) {
	for _, p := range three() {
		for _, kind := range append([]int{0, 4, 5, 30, 255}, far...) {
			isNot(t, changed(p, func(p *api.Packet) { p.Kind = kind }))
		}
	}
}

func TestNodesOfPackets(t *testing.T) {
	for _, p := range three() {
		for n := range 256 {
			is(t, changed(p, func(p *api.Packet) { p.From = n }))
			is(t, changed(p, func(p *api.Packet) { p.To = n }))
		}
		for _, n := range far {
			isNot(t, changed(p, func(p *api.Packet) { p.From = n }))
			isNot(t, changed(p, func(p *api.Packet) { p.To = n }))
			isNot(t, changed(p, func(p *api.Packet) { p.From, p.To = n, n }))
		}
	}
}

func TestCodesOfPackets(t *testing.T) {
	for _, p := range three()[:2] {
		for _, c := range codes {
			q := changed(p, func(p *api.Packet) { p.Op.Code = c })
			if c == api.OpRecall {
				isNot(t, q)
			} else {
				is(t, q)
			}
		}
	}
	for _, c := range codes[:len(codes)-1] {
		isNot(t, changed(call(), func(p *api.Packet) { p.Op.Code = c }))
	}
	for _, p := range three() {
		for _, c := range append([]int{0, 6, 7, 8, 9, 10, 25, 26, 27, 28, 29, 31, 255}, far...) {
			isNot(t, changed(p, func(p *api.Packet) { p.Op.Code = c }))
		}
	}
}

func TestErrorsOfPackets(t *testing.T) {
	for e := range 26 {
		is(t, changed(reply(), func(p *api.Packet) { p.Op.Err = api.Errno(e) }))
		if e > 0 {
			isNot(t, changed(ask(), func(p *api.Packet) { p.Op.Err = api.Errno(e) }))
			isNot(t, changed(call(), func(p *api.Packet) { p.Op.Err = api.Errno(e) }))
		}
	}
	for _, p := range three() {
		for _, e := range append([]int{26, 27, 100, 255}, far...) {
			isNot(t, changed(p, func(p *api.Packet) { p.Op.Err = api.Errno(e) }))
		}
	}
}

func TestNumbersOfPackets(t *testing.T) {
	for _, p := range three() {
		for _, n := range wide {
			for _, f := range plain {
				is(t, changed(p, func(p *api.Packet) { *f.at(p) = n }))
			}
			is(t, changed(p, func(p *api.Packet) {
				for _, f := range plain {
					*f.at(p) = n
				}
			}))
		}
	}
}

func TestStringsOfPackets(t *testing.T) {
	for _, p := range three() {
		for _, f := range strs {
			for n := range f.most + 1 {
				for _, s := range []string{mixed(n), strings.Repeat("\x00", n), strings.Repeat("\xff", n)} {
					is(t, changed(p, func(p *api.Packet) { *f.at(p) = s }))
				}
			}
			for _, n := range []int{f.most + 1, f.most + 2, f.most + 3, f.most + 4, 129, 255, 256, 256 + f.most, 1000, 65536, 65536 + f.most} {
				isNot(t, changed(p, func(p *api.Packet) { *f.at(p) = mixed(n) }))
				isNot(t, changed(p, func(p *api.Packet) { *f.at(p) = strings.Repeat("\x00", n) }))
			}
		}
	}
}

func TestLengthsOfStringsAreCountedInBytes(t *testing.T) {
	for _, f := range strs {
		is(t, changed(ask(), func(p *api.Packet) { *f.at(p) = strings.Repeat("ü", f.most/2) }))
		isNot(t, changed(ask(), func(p *api.Packet) { *f.at(p) = strings.Repeat("ü", f.most/2) + "a" }))
		isNot(t, changed(ask(), func(p *api.Packet) { *f.at(p) = strings.Repeat("€", f.most/3+1) }))
	}
}

func TestPacketsAtSeveralEdges(t *testing.T) {
	for _, kind := range []int{-1, 0, 1, 2, 3, 4} {
		for _, code := range []int{0, 1, 6, 24, 30} {
			for _, nodes := range [][2]int{{0, 0}, {0, 255}, {255, 0}, {255, 255}, {-1, 0}, {0, -1}, {256, 255}, {255, 256}, {-1, 256}} {
				for _, e := range []api.Errno{-1, 0, 1, 25, 26} {
					for _, n := range [][3]int{{0, 0, 0}, {64, 64, 128}, {65, 64, 128}, {64, 65, 128}, {64, 64, 129}, {65, 65, 129}} {
						check(t, api.Packet{Kind: kind, From: nodes[0], To: nodes[1], Op: api.Op{Code: code, Err: e, Path: mixed(n[0]), Other: mixed(n[1]), Data: mixed(n[2])}})
					}
				}
			}
		}
	}
}

func TestTheZeroPacketMayNotBe(t *testing.T) {
	isNot(t, api.Packet{})
	isNot(t, api.Packet{Kind: 1})
	isNot(t, api.Packet{Op: api.Op{Code: 1}})
	isNot(t, api.Packet{Kind: 3, Op: api.Op{Code: 1}})
}

// wrong is a packet of which one int, or some, are such as may not be.
func wrong(r *rand.Rand) api.Packet {
	p := randomPacket(r)
	for range 1 + r.Intn(2) {
		f := ints[r.Intn(len(ints))]
		if r.Intn(2) == 0 {
			f.set(&p, far[r.Intn(len(far))])
		} else {
			f.set(&p, r.Intn(300)-10)
		}
	}
	if r.Intn(4) == 0 {
		f := strs[r.Intn(len(strs))]
		*f.at(&p) = mixed(f.most - 1 + r.Intn(4))
	}
	return p
}

func TestRandomPackets(t *testing.T) {
	r := rand.New(rand.NewSource(1))
	for range 20000 {
		is(t, randomPacket(r))
		check(t, wrong(r))
	}
}

// P9.2

func TestReadOfNothing(t *testing.T) {
	fails(t, "", api.ErrShort)
}

func TestReadOfBytesThatAreCut(t *testing.T) {
	for _, p := range append(three(), bare(), fullest()) {
		s := laid(p)
		for n := range s {
			fails(t, s[:n], api.ErrShort)
		}
	}
}

// tails are bytes that are left behind a packet.
func tails() []string {
	l := []string{"\x00\x00", "\x00\x00\x00", "\x00\x00\x00\x00", "\x00\x00\x00\x01", "\x00\x00\x00\x00\x00\x00\x00\x00", "\xff\xff\xff\xff", "hello", strings.Repeat("\x00", 1000), mixed(1 << 16), laid(ask()), laid(bare()), laid(bare())[:79]}
	for n := range 256 {
		l = append(l, string([]byte{byte(n)}))
	}
	return l
}

func TestReadOfBytesThatAreLeft(t *testing.T) {
	for _, p := range append(three(), bare(), fullest()) {
		for _, tail := range tails() {
			fails(t, laid(p)+tail, api.ErrMore)
		}
	}
}

func TestReadOfNumbersThatMayNotBe(t *testing.T) {
	for _, x := range []struct {
		name  string
		place int
		nots  []uint32
	}{
		{"Kind", 0, []uint32{0, 4, 5, 30, 255, 257}},
		{"From", 1, []uint32{256, 257, 511, 512}},
		{"To", 2, []uint32{256, 257, 511, 512}},
		{"Code", 7, []uint32{0, 6, 10, 25, 29, 31, 255, 257}},
		{"Err", 8, []uint32{26, 27, 255, 257}},
	} {
		for _, p := range three() {
			for _, n := range append(x.nots, 0x100, 0x102, 0x10000, 0x10003, 0x1000000, 0x1000001, 1<<31-1, 1<<31, 1<<31+1, 1<<31+3, top-25, top-2, top-1, top) {
				fails(t, split(p).with(x.place, num(n)).bytes(), api.ErrForm)
			}
		}
	}
}

func TestReadOfNumbersThatDoNotGoTogether(t *testing.T) {
	for _, c := range codes {
		if c == api.OpRecall {
			fails(t, split(ask()).with(7, num(30)).bytes(), api.ErrForm)
			fails(t, split(reply()).with(7, num(30)).bytes(), api.ErrForm)
		} else {
			fails(t, split(call()).with(7, num(uint32(c))).bytes(), api.ErrForm)
		}
	}
	for e := uint32(1); e <= 26; e++ {
		fails(t, split(ask()).with(8, num(e)).bytes(), api.ErrForm)
		fails(t, split(call()).with(8, num(e)).bytes(), api.ErrForm)
	}
	fails(t, split(ask()).with(0, num(3)).bytes(), api.ErrForm)
	fails(t, split(call()).with(0, num(1)).bytes(), api.ErrForm)
	fails(t, split(call()).with(0, num(2)).bytes(), api.ErrForm)
	fails(t, split(reply()).with(0, num(1)).bytes(), api.ErrForm)
}

func TestReadOfTheGreatestNumbers(t *testing.T) {
	for _, p := range three() {
		for _, f := range plain {
			want := changed(p, func(p *api.Packet) { *f.at(p) = top })
			s := split(p).with(f.place, "\xff\xff\xff\xff").bytes()
			if q, err := Read(s); q != want || err != api.OK {
				t.Errorf("%s: Read(%q) = %#v, %d, want %#v", f.name, s, q, err, want)
			}
		}
		for _, f := range ints {
			fails(t, split(p).with(f.place, "\xff\xff\xff\xff").bytes(), api.ErrForm)
		}
	}
}

func TestReadOfStringsThatAreTooLong(t *testing.T) {
	for _, p := range three() {
		for _, f := range strs {
			x := split(p)
			for n := f.most + 1; n < f.most+70; n++ {
				fails(t, x.with(f.place, str(mixed(n))).bytes(), api.ErrMore)
			}
			for _, n := range []uint32{uint32(f.most) + 1, 129, 255, 256, 1 << 16, 1<<16 + 1, 1<<31 - 1, 1 << 31, 1<<31 + 1, top - 3, top - 1, top} {
				fails(t, x.with(f.place, num(n)).bytes(), api.ErrMore)
				fails(t, strings.Join(x[:f.place], "")+num(n), api.ErrMore)
				fails(t, strings.Join(x[:f.place], "")+num(n)+"abc", api.ErrMore)
			}
		}
	}
}

func TestReadOfStringsWhoseBytesAreMissing(t *testing.T) {
	for _, p := range three() {
		for _, f := range strs {
			x := split(p)
			head := strings.Join(x[:f.place], "")
			for n := 1; n <= f.most; n++ {
				s := str(mixed(n))
				for _, left := range []int{0, 1, 2, 3, 4, 5, n, n + 3, len(s) - 2, len(s) - 1} {
					if left >= 0 && left < len(s) {
						fails(t, head+s[:left], api.ErrShort)
					}
				}
			}
		}
	}
}

func TestReadOfPaddingThatIsNotZero(t *testing.T) {
	for _, p := range three() {
		for _, f := range strs {
			for n := 1; n <= f.most; n++ {
				b := []byte(str(mixed(n)))
				for i := 4 + n; i < len(b); i++ {
					for _, c := range []byte{1, ' ', 0x7f, 0x80, 0xff} {
						b[i] = c
						fails(t, split(p).with(f.place, string(b)).bytes(), api.ErrForm)
						b[i] = 0
					}
				}
			}
		}
	}
}

// flaw is what is wrong with a packet's bytes: a field that is replaced, with the error of it.
type flaw struct {
	place int
	as    string
	err   api.Errno
}

// flaws are those of strings, for which layer 2 has errors. Only the last string can miss bytes: another one would take them from the one behind it.
func flaws() []flaw {
	return []flaw{
		{17, num(65), api.ErrMore}, {17, str(mixed(65)), api.ErrMore}, {17, num(top), api.ErrMore}, {17, "\x00\x00\x00\x03abcd", api.ErrForm}, {17, "\x00\x00\x00\x01a\x00\x00\x01", api.ErrForm},
		{18, num(65), api.ErrMore}, {18, str(mixed(65)), api.ErrMore}, {18, num(top), api.ErrMore}, {18, "\x00\x00\x00\x03abcd", api.ErrForm}, {18, "\x00\x00\x00\x02a\x00\x00\x01", api.ErrForm},
		{19, num(129), api.ErrMore}, {19, str(mixed(129)), api.ErrMore}, {19, num(top), api.ErrMore}, {19, "\x00\x00\x00\x03abcd", api.ErrForm}, {19, "\x00\x00\x00\x01a\x80\x00\x00", api.ErrForm},
		{19, str("hello")[:11], api.ErrShort}, {19, num(128), api.ErrShort}, {19, "\x00\x00\x00", api.ErrShort}, {19, "", api.ErrShort}, {19, "\x00\x00\x00\x05hello\x01", api.ErrShort},
	}
}

// invalid are fields that layer 2 can read, but that no packet has.
func invalid() []flaw {
	return []flaw{{0, num(0), api.ErrForm}, {0, num(4), api.ErrForm}, {0, num(top), api.ErrForm}, {1, num(256), api.ErrForm}, {2, num(256), api.ErrForm}, {2, num(top), api.ErrForm}, {7, num(6), api.ErrForm}, {7, num(30), api.ErrForm}, {8, num(26), api.ErrForm}}
}

func TestTheFirstErrorOfSeveral(t *testing.T) {
	for _, p := range []api.Packet{ask(), reply()} {
		for _, a := range flaws() {
			fails(t, split(p).with(a.place, a.as).bytes(), a.err)
			for _, b := range flaws() {
				if b.place > a.place {
					fails(t, split(p).with(a.place, a.as).with(b.place, b.as).bytes(), a.err)
				}
			}
		}
	}
}

func TestErrorsOfLayerTwoComeAheadOfOneOfThePacket(t *testing.T) {
	for _, p := range []api.Packet{ask(), reply()} {
		for _, a := range invalid() {
			x := split(p).with(a.place, a.as)
			fails(t, x.bytes(), api.ErrForm)
			for _, b := range flaws() {
				fails(t, x.with(b.place, b.as).bytes(), b.err)
			}
			for n := range x.bytes() {
				fails(t, x.bytes()[:n], api.ErrShort)
			}
			for _, tail := range tails() {
				fails(t, x.bytes()+tail, api.ErrMore)
			}
		}
	}
}

func TestErrorsOfFieldsComeAheadOfBytesThatAreLeft(t *testing.T) {
	for _, a := range flaws() {
		// Bytes behind those that are missing would be these.
		if a.err == api.ErrShort {
			continue
		}
		for _, tail := range tails() {
			fails(t, split(ask()).with(a.place, a.as).bytes()+tail, a.err)
		}
	}
}

func TestAFlawBehindACutIsNotSeen(t *testing.T) {
	for _, a := range flaws() {
		x := split(ask()).with(a.place, a.as)
		ahead := strings.Join(x[:a.place], "")
		for n := range ahead {
			fails(t, ahead[:n], api.ErrShort)
		}
	}
}

func TestReadOfALengthNeedsNoMemory(t *testing.T) {
	var before, after runtime.MemStats
	x := split(ask())
	runtime.ReadMemStats(&before)
	for _, f := range strs {
		head := strings.Join(x[:f.place], "")
		for _, n := range []uint32{65, 129, 1 << 20, 1 << 30, 1 << 31, top} {
			Read(head + num(n))
		}
	}
	runtime.ReadMemStats(&after)
	if took := after.TotalAlloc - before.TotalAlloc; took > 1<<16 {
		t.Errorf("lengths without their bytes took %d bytes of memory", took)
	}
}

// damaged are the bytes of a packet with some of them changed, lost or put in.
func damaged(r *rand.Rand) string {
	b := []byte(laid(randomPacket(r)))
	for range r.Intn(4) {
		i := r.Intn(len(b))
		switch r.Intn(5) {
		case 0:
			b[i] = byte(r.Intn(256))
		case 1:
			b[i]++
		case 2:
			b = append(b[:i:i], b[i+1:]...)
		case 3:
			b = append(b, byte(r.Intn(2)))
		case 4:
			b[i] = 0
		}
	}
	return string(b)
}

// reads looks that bytes are read as the chapter says.
func reads(t *testing.T, s string) (api.Packet, api.Errno) {
	t.Helper()
	p, err := Read(s)
	if want, e := told(s); p != want || err != e {
		t.Fatalf("Read(%q) = %#v, %d, want %#v, %d", s, p, err, want, e)
	}
	return p, err
}

func TestReadOfDamagedBytes(t *testing.T) {
	r := rand.New(rand.NewSource(2))
	heard := map[api.Errno]int{}
	for range 100000 {
		_, err := reads(t, damaged(r))
		heard[err]++
	}
	for _, e := range []api.Errno{api.OK, api.ErrShort, api.ErrMore, api.ErrForm} {
		if heard[e] < 1000 {
			t.Errorf("error %d was heard only %d times", e, heard[e])
		}
	}
}

func TestReadOfRandomBytes(t *testing.T) {
	r := rand.New(rand.NewSource(3))
	for range 50000 {
		b := make([]byte, r.Intn(200))
		for i := range b {
			if r.Intn(4) == 0 {
				b[i] = byte(r.Intn(256)) >> r.Intn(8)
			}
		}
		reads(t, string(b))
	}
}

func TestReadOfEachByteChanged(t *testing.T) {
	for _, p := range append(three(), bare()) {
		s := laid(p)
		for i := range s {
			for c := range 256 {
				b := []byte(s)
				b[i] = byte(c)
				reads(t, string(b))
			}
		}
	}
}

func FuzzRead(f *testing.F) {
	for _, p := range append(three(), bare(), fullest()) {
		f.Add(laid(p))
	}
	for _, x := range append(flaws(), invalid()...) {
		f.Add(split(ask()).with(x.place, x.as).bytes())
	}
	f.Fuzz(func(t *testing.T, s string) {
		p, err := reads(t, s)
		if err != api.OK {
			return
		}
		if again, e := Write(p); again != s || e != api.OK {
			t.Fatalf("Write(%#v) = %q, %d, but it was read from %q", p, again, e, s)
		}
	})
}

func TestNothingIsKeptFromCallToCall(t *testing.T) {
	s := laid(ask())
	for _, x := range []string{"", s[:50], s + "\x00", laid(fullest()), split(ask()).with(0, num(9)).bytes()} {
		Read(x)
		if p, err := Read(s); p != ask() || err != api.OK {
			t.Errorf("behind Read(%q), Read(%q) = %#v, %d", x, s, p, err)
		}
		if again, err := Write(ask()); again != s || err != api.OK {
			t.Errorf("behind Read(%q), Write = %q, %d", x, again, err)
		}
		Write(api.Packet{Kind: 9})
		if !Right(ask()) || Right(api.Packet{}) {
			t.Errorf("behind Read(%q), Right is another one", x)
		}
	}
}

// P9.3

func TestWhatWasReadHasExactlyTheseBytes(t *testing.T) {
	r := rand.New(rand.NewSource(4))
	n := 0
	for range 100000 {
		s := damaged(r)
		p, err := Read(s)
		if err != api.OK {
			continue
		}
		n++
		if again, err := Write(p); again != s || err != api.OK {
			t.Fatalf("Write(%#v) = %q, %d, but it was read from %q", p, again, err, s)
		}
		if !Right(p) {
			t.Fatalf("Read(%q) = %#v, which may not be", s, p)
		}
	}
	if n < 10000 {
		t.Errorf("only %d could be read", n)
	}
}

func TestWhatWasWrittenIsReadAsItWas(t *testing.T) {
	r := rand.New(rand.NewSource(5))
	l := packets()
	for range 20000 {
		l = append(l, randomPacket(r))
	}
	for _, p := range l {
		s, err := Write(p)
		if err != api.OK {
			t.Fatalf("Write(%#v): error %d", p, err)
		}
		if q, err := Read(s); q != p || err != api.OK {
			t.Fatalf("Read(Write(%#v)) = %#v, %d", p, q, err)
		}
	}
}

// P9.4

func TestPrefixesAreNoPackets(t *testing.T) {
	for _, p := range packets() {
		s, _ := Write(p)
		for n := range s {
			if q, err := Read(s[:n]); q != (api.Packet{}) || err == api.OK {
				t.Fatalf("the first %d bytes of those of %#v are read as %#v", n, p, q)
			}
		}
	}
}

func TestBytesWithOthersBehindAreNoPackets(t *testing.T) {
	r := rand.New(rand.NewSource(6))
	l := tails()
	for range 100 {
		l = append(l, laid(randomPacket(r)), mixed(1+r.Intn(300)))
	}
	for range 50 {
		p := randomPacket(r)
		s, _ := Write(p)
		for _, tail := range l {
			if q, err := Read(s + tail); q != (api.Packet{}) || err == api.OK {
				t.Fatalf("the bytes of %#v and %q behind them are read as %#v", p, tail, q)
			}
		}
	}
}

// P9.5

func TestDifferentPacketsHaveDifferentBytes(t *testing.T) {
	r := rand.New(rand.NewSource(7))
	l := packets()
	for range 20000 {
		l = append(l, randomPacket(r))
	}
	of := map[string]api.Packet{}
	for _, p := range l {
		s, err := Write(p)
		if err != api.OK {
			t.Fatalf("Write(%#v): error %d", p, err)
		}
		if q, ok := of[s]; ok && q != p {
			t.Fatalf("%#v and %#v both have the bytes %q", p, q, s)
		}
		of[s] = p
	}
}

func TestPacketsThatDifferInOneField(t *testing.T) {
	bases := []api.Packet{reply(), changed(bare(), func(p *api.Packet) { p.Kind = 2 })}
	for _, p := range bases {
		seen := map[string]api.Packet{laid(p): p}
		add := func(change func(p *api.Packet)) {
			q := changed(p, change)
			s, err := Write(q)
			if err != api.OK {
				t.Fatalf("Write(%#v): error %d", q, err)
			}
			if x, ok := seen[s]; ok && x != q {
				t.Fatalf("%#v and %#v both have the bytes %q", q, x, s)
			}
			seen[s] = q
		}
		for _, f := range plain {
			for i := range 32 {
				add(func(p *api.Packet) { *f.at(p) ^= 1 << i })
			}
		}
		for i := range 8 {
			add(func(p *api.Packet) { p.From ^= 1 << i })
			add(func(p *api.Packet) { p.To ^= 1 << i })
		}
		for _, s := range []string{"", "\x00", "\x00\x00", "\x00\x00\x00", "\x00\x00\x00\x00", "\x00\x00\x00\x00\x00", "a", "a\x00", "a\x00\x00", "a\x00\x00\x00", "\x00\x00\x00\x01a\x00\x00\x00"} {
			for _, f := range strs {
				add(func(p *api.Packet) { *f.at(p) = s })
			}
		}
	}
}

func TestBytesDoNotWanderBetweenStrings(t *testing.T) {
	const all = "abcdefgh\x00\x00\x00\x00"
	of := map[string]api.Packet{}
	for i := range len(all) + 1 {
		for j := i; j <= len(all); j++ {
			p := bare()
			p.Op.Path, p.Op.Other, p.Op.Data = all[:i], all[i:j], all[j:]
			s, err := Write(p)
			if _, ok := of[s]; ok || err != api.OK {
				t.Fatalf("Write(%#v) = %q, %d, which are the bytes of %#v", p, s, err, of[s])
			}
			of[s] = p
			if q, err := Read(s); q != p || err != api.OK {
				t.Fatalf("Read(%q) = %#v, %d, want %#v", s, q, err, p)
			}
		}
	}
}
