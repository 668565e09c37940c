package packet_test

import (
	"bytes"
	"math"
	"math/rand"
	"slices"
	"strings"
	"testing"

	"lessor/api"
	"lessor/option"
	"lessor/packet"
)

// opt makes an option of a Code and the bytes of its Data.
func opt(code int, data ...byte) api.Option {
	return api.Option{Code: code, Data: data}
}

// list makes a list of options.
func list(l ...api.Option) []api.Option {
	return l
}

// filled is so many bytes of one value.
func filled(size int, value byte) []byte {
	return bytes.Repeat([]byte{value}, size)
}

// plain is a valid packet without options.
func plain() api.Packet {
	return api.Packet{Op: 1, Hw: []byte{7}}
}

// with is a valid packet with these options.
func with(l ...api.Option) api.Packet {
	p := plain()
	p.Options = l
	return p
}

// whole is a valid packet of which no two fields have a byte in common.
func whole() api.Packet {
	return api.Packet{
		Op: 2, Xid: 0x11121314, Secs: 0x2122, Flags: 0x3132,
		Ci: 0x41424344, Yi: 0x51525354, Si: 0x61626364, Gi: 0x71727374,
		Hw:      []byte{0x81, 0x82, 0x83, 0x84, 0x85, 0x86},
		Options: list(opt(53, 5), opt(61, 'a', 'b'), opt(50, 10, 0, 0, 9), opt(51, 0, 0, 1, 0)),
	}
}

// same reports whether two packets are the same, an empty slice being like none.
func same(a, b api.Packet) bool {
	return a.Op == b.Op && a.Xid == b.Xid && a.Secs == b.Secs && a.Flags == b.Flags &&
		a.Ci == b.Ci && a.Yi == b.Yi && a.Si == b.Si && a.Gi == b.Gi && bytes.Equal(a.Hw, b.Hw) &&
		slices.EqualFunc(a.Options, b.Options, func(x, y api.Option) bool {
			return x.Code == y.Code && bytes.Equal(x.Data, y.Data)
		})
}

// cloned is a copy of p that shares no memory with it.
func cloned(p api.Packet) api.Packet {
	p.Hw = bytes.Clone(p.Hw)
	p.Options = slices.Clone(p.Options)
	for i := range p.Options {
		p.Options[i].Data = bytes.Clone(p.Options[i].Data)
	}
	return p
}

// spoil overwrites all memory that can be reached of p, up to the capacities.
func spoil(p api.Packet) {
	spoilBytes(p.Hw)
	for _, o := range p.Options {
		spoilBytes(o.Data)
	}
	l := p.Options[:cap(p.Options)]
	for i := range l {
		l[i] = opt(-7, 7)
	}
}

func spoilBytes(b []byte) {
	b = b[:cap(b)]
	for i := range b {
		b[i] ^= 0xa5
	}
}

// encoded is the encoding of p, or the end of the test.
func encoded(t *testing.T, p api.Packet) []byte {
	t.Helper()
	b, e := packet.Encode(p)
	if e != api.OK {
		t.Fatalf("Encode(%v): %d", p, e)
	}
	return b
}

// accept fails unless p is valid, and its encoding is decoded as it.
func accept(t *testing.T, what string, p api.Packet) {
	t.Helper()
	if !packet.Right(p) {
		t.Errorf("%s: Right = false", what)
	}
	b, e := packet.Encode(p)
	if len(b) == 0 || e != api.OK {
		t.Errorf("%s: Encode = %v, %d", what, b, e)
	}
	if q, e := packet.Decode(b); !same(p, q) || e != api.OK {
		t.Errorf("%s: Decode of Encode = %v, %d, want %v, OK", what, q, e, p)
	}
}

// refuse fails unless p is not valid.
func refuse(t *testing.T, what string, p api.Packet) {
	t.Helper()
	if packet.Right(p) {
		t.Errorf("%s: Right = true", what)
	}
	if b, e := packet.Encode(p); len(b) != 0 || e != api.ErrArg {
		t.Errorf("%s: Encode = %v, %d, want nothing, ErrArg", what, b, e)
	}
}

// refuseBytes fails unless b stands for no packet.
func refuseBytes(t *testing.T, what string, b []byte) {
	t.Helper()
	if p, e := packet.Decode(b); !same(p, api.Packet{}) || e != api.ErrForm {
		t.Errorf("%s: Decode = %v, %d, want nothing, ErrForm", what, p, e)
	}
}

// P3.1: Right and Encode

func TestEncodeOfAWholePacket(t *testing.T) {
	want := slices.Concat(
		[]byte{2, 1, 6, 0},
		[]byte{0x11, 0x12, 0x13, 0x14, 0x21, 0x22, 0x31, 0x32},
		[]byte{0x41, 0x42, 0x43, 0x44, 0x51, 0x52, 0x53, 0x54, 0x61, 0x62, 0x63, 0x64, 0x71, 0x72, 0x73, 0x74},
		[]byte{0x81, 0x82, 0x83, 0x84, 0x85, 0x86}, make([]byte, 10), make([]byte, 192),
		[]byte{99, 130, 83, 99},
		[]byte{53, 1, 5, 61, 2, 'a', 'b', 50, 4, 10, 0, 0, 9, 51, 4, 0, 0, 1, 0, 255},
	)
	if b, e := packet.Encode(whole()); !bytes.Equal(b, want) || e != api.OK {
		t.Errorf("Encode = %v, %d, want %v, OK", b, e, want)
	}
	if !packet.Right(whole()) {
		t.Error("Right = false")
	}
	if p, e := packet.Decode(want); !same(p, whole()) || e != api.OK {
		t.Errorf("Decode = %v, %d, want %v, OK", p, e, whole())
	}
}

func TestEncodeOfAPacketWithoutOptions(t *testing.T) {
	want := slices.Concat([]byte{1, 1, 1, 0}, make([]byte, 24), []byte{7}, make([]byte, 15+192), []byte{99, 130, 83, 99, 255})
	if len(want) != 241 {
		t.Fatal(len(want))
	}
	for _, l := range [][]api.Option{nil, {}} {
		p := with(l...)
		if b, e := packet.Encode(p); !bytes.Equal(b, want) || e != api.OK || packet.Kind(p) != 0 {
			t.Errorf("Encode = %v, %d, want %v, OK; Kind = %d", b, e, want, packet.Kind(p))
		}
		accept(t, "no options", p)
	}
}

func TestEveryOp(t *testing.T) {
	for _, op := range []int{math.MinInt, -255, -1, 0, 1, 2, 3, 255, 256, 257, 258, 1<<32 + 1, math.MaxInt} {
		p := plain()
		p.Op = op
		if op == 1 || op == 2 {
			accept(t, "Op", p)
			if b := encoded(t, p); b[0] != byte(op) {
				t.Errorf("Encode with Op %d begins with %d", op, b[0])
			}
		} else {
			refuse(t, "Op", p)
		}
	}
}

func TestSecsAndFlagsAtTheEdges(t *testing.T) {
	for _, n := range []int{math.MinInt, -65536, -1, 0, 1, 255, 256, 32768, 65534, 65535, 65536, 65537, 1 << 32, math.MaxInt} {
		secs, flags := plain(), plain()
		secs.Secs, flags.Flags = n, n
		if n < 0 || n > 65535 {
			refuse(t, "Secs", secs)
			refuse(t, "Flags", flags)
			continue
		}
		accept(t, "Secs", secs)
		accept(t, "Flags", flags)
		number := []byte{byte(n / 256), byte(n % 256), 0, 0}
		if b := encoded(t, secs); !bytes.Equal(b[8:12], number) {
			t.Errorf("Encode with Secs %d = %v", n, b)
		}
		if b := encoded(t, flags); !bytes.Equal(b[10:14], number) {
			t.Errorf("Encode with Flags %d = %v", n, b)
		}
	}
}

func TestNumbersOfFourBytesAtTheEdges(t *testing.T) {
	for _, n := range []uint32{0, 1, 255, 256, 65535, 65536, 1<<31 - 1, 1 << 31, math.MaxUint32} {
		number := []byte{byte(n >> 24), byte(n >> 16), byte(n >> 8), byte(n)}
		for i := range 5 {
			p := plain()
			at := []int{4, 12, 16, 20, 24}[i]
			switch i {
			case 0:
				p.Xid = n
			case 1:
				p.Ci = api.Addr(n)
			case 2:
				p.Yi = api.Addr(n)
			case 3:
				p.Si = api.Addr(n)
			case 4:
				p.Gi = api.Addr(n)
			}
			accept(t, "a number of 4 bytes", p)
			want := encoded(t, plain())
			copy(want[at:], number)
			if b := encoded(t, p); !bytes.Equal(b, want) {
				t.Errorf("Encode with %d at %d = %v", n, at, b)
			}
		}
	}
}

func TestHwOfEveryLength(t *testing.T) {
	for size := range 40 {
		for _, value := range []byte{0, 1, 255} {
			p := plain()
			p.Hw = filled(size, value)
			if size < 1 || size > 16 {
				refuse(t, "Hw", p)
				continue
			}
			accept(t, "Hw", p)
			b := encoded(t, p)
			if b[2] != byte(size) || !bytes.Equal(b[28:44], append(filled(size, value), make([]byte, 16-size)...)) {
				t.Errorf("Encode with Hw of %d bytes %d = %v", size, value, b)
			}
		}
	}
	for _, size := range []int{255, 256, 257, 272, 65536 + 6} {
		p := plain()
		p.Hw = filled(size, 7)
		refuse(t, "Hw", p)
	}
	p := plain()
	p.Hw = nil
	refuse(t, "no Hw", p)
}

func TestOptionsThatOptionEncodeRefuses(t *testing.T) {
	full := list(opt(1, filled(255, 1)...), opt(2, filled(255, 2)...), opt(3, filled(255, 3)...))
	for _, l := range [][]api.Option{
		list(opt(0)), list(opt(255)), list(opt(-1)), list(opt(256 + 53)), list(opt(53, 1), opt(0)),
		list(opt(53, filled(256, 1)...)),
		append(slices.Clone(full), opt(4, filled(251, 4)...)), // 1025 bytes
		slices.Repeat(list(opt(9)), 512),
	} {
		if _, e := option.Encode(l); e == api.OK {
			t.Fatalf("option.Encode accepts %v", l)
		}
		refuse(t, "options", with(l...))
	}
	for _, l := range [][]api.Option{
		list(opt(1), opt(254)),
		list(opt(53, filled(255, 1)...)),
		append(slices.Clone(full), opt(4, filled(250, 4)...)), // 1024 bytes
		slices.Repeat(list(opt(9)), 511),
	} {
		accept(t, "options", with(l...))
	}
}

func TestSeveralFaultsAreErrArg(t *testing.T) {
	refuse(t, "the zero value", api.Packet{})
	refuse(t, "all is wrong", api.Packet{Op: 3, Secs: -1, Flags: 65536, Options: slices.Repeat(list(opt(9)), 512)})
}

// P3.1: Decode

func TestDecodeRefusesEveryTruncation(t *testing.T) {
	for _, p := range []api.Packet{whole(), plain(), with(opt(53, 1), opt(61, 255, 255))} {
		b := encoded(t, p)
		for n := range b {
			refuseBytes(t, "truncated", b[:n:n])
			refuseBytes(t, "truncated, with the rest behind it", b[:n])
		}
	}
	refuseBytes(t, "nil", nil)
	refuseBytes(t, "empty", []byte{})
}

func TestDecodeRefusesOtherBytesWhereAllPacketsHaveTheSame(t *testing.T) {
	for _, size := range []int{1, 6, 15, 16} {
		p := whole()
		p.Hw = filled(size, 9)
		fixed := []int{1, 3}
		for at := 28 + size; at < 240; at++ {
			fixed = append(fixed, at)
		}
		b := encoded(t, p)
		for _, at := range fixed {
			for value := range 256 {
				c := slices.Clone(b)
				c[at] = byte(value)
				if !bytes.Equal(b, c) {
					refuseBytes(t, "another byte", c)
				}
			}
		}
	}
}

func TestDecodeOfEveryOpAndLengthOfHw(t *testing.T) {
	p := plain()
	p.Hw = filled(16, 9)
	for value := range 256 {
		op, size := encoded(t, p), encoded(t, plain())
		op[0], size[2] = byte(value), byte(value)
		if value != 1 && value != 2 {
			refuseBytes(t, "Op", op)
		} else if q, e := packet.Decode(op); q.Op != value || e != api.OK {
			t.Errorf("Decode with Op %d = %v, %d", value, q, e)
		}
		// The padding is of bytes 0, as more bytes of Hw may be.
		if value == 0 || value > 16 {
			refuseBytes(t, "the length of Hw", size)
		} else if q, e := packet.Decode(size); !bytes.Equal(q.Hw, append([]byte{7}, make([]byte, value-1)...)) || e != api.OK {
			t.Errorf("Decode with %d bytes of Hw = %v, %d", value, q, e)
		}
	}
	zero := encoded(t, plain())
	zero[2], zero[28] = 0, 0
	refuseBytes(t, "no Hw", zero)
}

func TestDecodeSkipsBytes0AmongOptions(t *testing.T) {
	front := encoded(t, plain())[:240]
	for _, c := range []struct {
		b    []byte
		want []api.Option
	}{
		{[]byte{255}, nil},
		{[]byte{255, 0}, nil},
		{[]byte{0, 0, 255, 0, 0, 0}, nil},
		{[]byte{0, 53, 1, 1, 255}, list(opt(53, 1))},
		{[]byte{53, 1, 1, 0, 0, 61, 1, 0, 0, 255}, list(opt(53, 1), opt(61, 0))},
		{[]byte{0, 53, 1, 1, 0, 61, 0, 0, 255, 0, 0}, list(opt(53, 1), opt(61))},
		{append([]byte{53, 1, 1, 255}, make([]byte, 1020)...), list(opt(53, 1))},
		{append(make([]byte, 1020), 53, 1, 1, 255), list(opt(53, 1))},
	} {
		p, e := packet.Decode(slices.Concat(front, c.b))
		if !same(p, with(c.want...)) || e != api.OK {
			t.Errorf("Decode with the options %v = %v, %d, want %v, OK", c.b, p, e, c.want)
		}
	}
}

func TestDecodeRefusesOptionsThatOptionDecodeRefuses(t *testing.T) {
	front := encoded(t, plain())[:240]
	for _, b := range [][]byte{
		{}, {0}, {0, 0}, {53}, {53, 1}, {53, 1, 1}, {53, 2, 1}, {53, 2, 1, 255}, {53, 1, 1, 0}, {53, 255, 1, 255},
		{255, 1}, {255, 255}, {255, 0, 1}, {53, 1, 1, 255, 53, 1, 1, 255},
		append([]byte{53, 1, 1, 255}, make([]byte, 1021)...),
		append(make([]byte, 1024), 255),
		make([]byte, 70000),
	} {
		if _, e := option.Decode(b); e == api.OK {
			t.Fatalf("option.Decode accepts %v", b)
		}
		refuseBytes(t, "options", slices.Concat(front, b))
	}
}

// P3.2

func TestKind(t *testing.T) {
	for _, c := range []struct {
		l    []api.Option
		want int
	}{
		{nil, 0},
		{list(opt(53)), 0},
		{list(opt(53, 0)), 0},
		{list(opt(53, 1)), api.Discover},
		{list(opt(53, 8)), api.Inform},
		{list(opt(53, 9)), 9},
		{list(opt(53, 128)), 128},
		{list(opt(53, 255)), 255},
		{list(opt(53, 0, 1)), 0},
		{list(opt(53, 1, 0)), 0},
		{list(opt(53, 0, 0, 0, 1)), 0},
		{list(opt(61, 4), opt(53, 3), opt(50, 4)), 3},
		{list(opt(53, 3), opt(53, 5)), 3},
		// The first one counts, even if it is of the wrong length.
		{list(opt(53), opt(53, 5)), 0},
		{list(opt(53, 1, 2), opt(53, 5)), 0},
		{list(opt(52, 1), opt(54, 2), opt(53+256, 3), opt(53-256, 4)), 0},
	} {
		if n := packet.Kind(with(c.l...)); n != c.want {
			t.Errorf("Kind with %v = %d, want %d", c.l, n, c.want)
		}
	}
}

func TestClient(t *testing.T) {
	hw := "\x00\xff\x07"
	long := strings.Repeat("x", 32)
	for _, c := range []struct {
		l    []api.Option
		want string
	}{
		{nil, hw},
		{list(opt(61)), hw},
		{list(opt(61, 'a')), "a"},
		{list(opt(61, 0)), "\x00"},
		{list(opt(61, 0xff, 0xfe, 0)), "\xff\xfe\x00"},
		{list(opt(61, filled(31, 'x')...)), long[1:]},
		{list(opt(61, filled(32, 'x')...)), long},
		{list(opt(61, filled(33, 'x')...)), hw},
		{list(opt(61, filled(255, 'x')...)), hw},
		{list(opt(61, filled(256+5, 'x')...)), hw},
		{list(opt(53, 1), opt(61, 'b'), opt(50, 'c')), "b"},
		{list(opt(61, 'a'), opt(61, 'b')), "a"},
		// The first one counts, even if it is of the wrong length.
		{list(opt(61), opt(61, 'b')), hw},
		{list(opt(61, filled(33, 'x')...), opt(61, 'b')), hw},
		{list(opt(60, 'a'), opt(62, 'b')), hw},
	} {
		p := with(c.l...)
		p.Hw = []byte(hw)
		if s := packet.Client(p); s != c.want {
			t.Errorf("Client with %v = %q, want %q", c.l, s, c.want)
		}
	}
}

func TestClientByHwOfAnyLength(t *testing.T) {
	for _, size := range []int{0, 1, 6, 16, 17, 32, 33, 300} {
		p := api.Packet{Hw: filled(size, 'h')}
		if s := packet.Client(p); s != strings.Repeat("h", size) {
			t.Errorf("Client of %d bytes of Hw = %q", size, s)
		}
	}
}

func TestAsked(t *testing.T) {
	const ci = 0x01020304
	for _, c := range []struct {
		l    []api.Option
		addr api.Addr
		long int
	}{
		{nil, ci, 0},
		{list(opt(50, 192, 168, 1, 1)), 3232235777, 0},
		{list(opt(50, 0, 0, 0, 0)), 0, 0},
		{list(opt(50, 255, 255, 255, 255)), math.MaxUint32, 0},
		{list(opt(50)), ci, 0},
		{list(opt(50, 1)), ci, 0},
		{list(opt(50, 1, 2)), ci, 0},
		{list(opt(50, 1, 2, 3)), ci, 0},
		{list(opt(50, 0, 0, 0, 0, 9)), ci, 0},
		{list(opt(51, 0, 0, 0, 0)), ci, 0},
		{list(opt(51, 0, 0, 14, 16)), ci, 3600},
		{list(opt(51, 128, 0, 0, 0)), ci, 1 << 31},
		{list(opt(51, 255, 255, 255, 255)), ci, math.MaxUint32},
		{list(opt(51)), ci, 0},
		{list(opt(51, 1)), ci, 0},
		{list(opt(51, 1, 2)), ci, 0},
		{list(opt(51, 1, 2, 3)), ci, 0},
		{list(opt(51, 0, 0, 0, 0, 9)), ci, 0},
		{list(opt(51, 0, 0, 0, 5), opt(53, 3), opt(50, 0, 0, 0, 6)), 6, 5},
		{list(opt(50, 0, 0, 0, 6), opt(51, 5)), 6, 0},
		{list(opt(50, 6), opt(51, 0, 0, 0, 5)), ci, 5},
		{list(opt(50, 0, 0, 0, 1), opt(50, 0, 0, 0, 2), opt(51, 0, 0, 0, 3), opt(51, 0, 0, 0, 4)), 1, 3},
		// The first one counts, even if it is of the wrong length.
		{list(opt(50, 1), opt(50, 0, 0, 0, 2), opt(51), opt(51, 0, 0, 0, 4)), ci, 0},
		{list(opt(49, 0, 0, 0, 1), opt(52, 0, 0, 0, 2)), ci, 0},
	} {
		p := with(c.l...)
		p.Ci, p.Yi = ci, 77
		if a, n := packet.Asked(p); a != c.addr || n != c.long {
			t.Errorf("Asked with %v = %d, %d, want %d, %d", c.l, a, n, c.addr, c.long)
		}
	}
}

func TestQueriesOfPacketsThatAreNotValid(t *testing.T) {
	p := api.Packet{Op: -1, Secs: -1, Flags: 1 << 40, Ci: 9, Options: list(opt(0), opt(-1, filled(300, 1)...), opt(53, 2), opt(61, 'n'), opt(51, 0, 0, 0, 8))}
	if packet.Kind(p) != 2 || packet.Client(p) != "n" {
		t.Errorf("Kind = %d, Client = %q", packet.Kind(p), packet.Client(p))
	}
	if a, n := packet.Asked(p); a != 9 || n != 8 {
		t.Errorf("Asked = %d, %d", a, n)
	}
	p = api.Packet{}
	if a, n := packet.Asked(p); a != 0 || n != 0 || packet.Kind(p) != 0 || packet.Client(p) != "" {
		t.Errorf("of the zero value: %d, %d, %d, %q", a, n, packet.Kind(p), packet.Client(p))
	}
}

// P3.3, and with it P1 and P2

// anyPacket is a valid packet, often with a field at an edge.
func anyPacket(r *rand.Rand) api.Packet {
	two := func() int { return []int{0, 1, 65535, r.Intn(65536)}[r.Intn(4)] }
	four := func() uint32 { return []uint32{0, 1, math.MaxUint32, r.Uint32()}[r.Intn(4)] }
	some := func(size int) []byte {
		b := make([]byte, size)
		for i := range b {
			b[i] = []byte{0, 1, 255, byte(r.Intn(256))}[r.Intn(4)]
		}
		return b
	}
	p := api.Packet{
		Op: 1 + r.Intn(2), Xid: four(), Secs: two(), Flags: two(),
		Ci: api.Addr(four()), Yi: api.Addr(four()), Si: api.Addr(four()), Gi: api.Addr(four()),
		Hw: some(1 + r.Intn(16)),
	}
	for left := r.Intn(1024) - 2; left >= 0 && r.Intn(10) > 0; left -= 2 {
		size := min(left, []int{0, 1, 4, r.Intn(256)}[r.Intn(4)])
		p.Options = append(p.Options, opt([]int{50, 51, 53, 61, 1 + r.Intn(254)}[r.Intn(5)], some(size)...))
		left -= size
	}
	return p
}

func TestDecodeOfEncodeReturnsThePacket(t *testing.T) {
	r := rand.New(rand.NewSource(1))
	for range 5000 {
		p := anyPacket(r)
		b, e := packet.Encode(p)
		if e != api.OK || !packet.Right(p) {
			t.Fatalf("Encode(%v): %d; Right = %v", p, e, packet.Right(p))
		}
		if q, e := packet.Decode(b); !same(q, p) || e != api.OK {
			t.Fatalf("Decode(Encode(%v)) = %v, %d", p, q, e)
		}
	}
}

// checkAny decodes b, and fails unless what comes of that is nothing, or a
// packet that comes back from its encoding. It reports whether it is a packet.
func checkAny(t *testing.T, b []byte) bool {
	t.Helper()
	before := slices.Clone(b)
	p, e := packet.Decode(b)
	if !bytes.Equal(b, before) {
		t.Fatalf("Decode changed %v into %v", before, b)
	}
	if e != api.OK {
		if e != api.ErrForm || !same(p, api.Packet{}) {
			t.Fatalf("Decode(%v) = %v, %d", b, p, e)
		}
		return false
	}
	c, e := packet.Encode(p)
	q, f := packet.Decode(c)
	if e != api.OK || f != api.OK || !same(p, q) || !packet.Right(p) {
		t.Fatalf("Decode(%v) = %v, whose encoding %v, %d is decoded as %v, %d", b, p, c, e, q, f)
	}
	if !bytes.Equal(b[:240], c[:240]) {
		t.Fatalf("Decode(%v) = %v, whose encoding begins otherwise: %v", b, p, c)
	}
	return true
}

func TestDecodeOfAnyBytes(t *testing.T) {
	r := rand.New(rand.NewSource(2))
	for range 5000 {
		b := make([]byte, r.Intn(1400))
		r.Read(b)
		checkAny(t, b)
	}
	right, wrong := 0, 0
	for range 40000 {
		b := encoded(t, anyPacket(r))
		for range 1 + r.Intn(2) {
			b[r.Intn(len(b))] = []byte{0, 1, 2, 16, 17, 255, byte(r.Intn(256))}[r.Intn(7)]
		}
		switch r.Intn(4) {
		case 0:
			b = b[:r.Intn(len(b)+1)]
		case 1:
			b = append(b, make([]byte, r.Intn(20))...)
		}
		if checkAny(t, b) {
			right++
		} else {
			wrong++
		}
	}
	if right < 1000 || wrong < 1000 {
		t.Errorf("only %d bytes that are packets, and %d that are not", right, wrong)
	}
}

func FuzzDecode(f *testing.F) {
	for _, p := range []api.Packet{whole(), plain()} {
		b, _ := packet.Encode(p)
		f.Add(b)
	}
	f.Fuzz(func(t *testing.T, b []byte) { checkAny(t, b) })
}

// R3

func TestCallsLeaveTheirArgumentsAlone(t *testing.T) {
	p := whole()
	before := cloned(p)
	packet.Right(p)
	packet.Kind(p)
	packet.Client(p)
	packet.Asked(p)
	b := encoded(t, p)
	spoilBytes(b)
	if !same(p, before) {
		t.Errorf("%v became %v", before, p)
	}
	b = encoded(t, p)
	name := packet.Client(p)
	spoil(p)
	if !bytes.Equal(b, encoded(t, before)) || name != "ab" {
		t.Errorf("what was returned changed with its argument: %v, %q", b, name)
	}
}

func TestEncodeLeavesRoomBehindHwAlone(t *testing.T) {
	room := filled(20, 9)
	p := plain()
	p.Hw = room[:3]
	encoded(t, p)
	if !bytes.Equal(room, filled(20, 9)) {
		t.Errorf("the bytes behind Hw became %v", room)
	}
}

func TestDecodeSharesNoMemory(t *testing.T) {
	b := encoded(t, whole())
	before := slices.Clone(b)
	p, _ := packet.Decode(b)
	spoilBytes(b)
	if !same(p, whole()) {
		t.Errorf("what Decode returned changed with its argument: %v", p)
	}
	copy(b, before)
	p, _ = packet.Decode(b)
	spoil(p)
	if !bytes.Equal(b, before) {
		t.Errorf("the argument of Decode changed with what it returned: %v", b)
	}
	p, _ = packet.Decode(b)
	spoilBytes(p.Hw)
	want := whole()
	want.Hw = p.Hw
	if !same(p, want) {
		t.Errorf("Hw shares memory with the options: %v", p)
	}
}
