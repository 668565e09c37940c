package lease_test

import (
	"bytes"
	"math"
	"math/rand"
	"slices"
	"strings"
	"testing"

	"lessor/api"
	"lessor/lease"
)

// most is the last moment.
const most = 1 << 40

// held is a lease that somebody has, or had, no two numbers of which have a byte
// in common but 0.
func held(bind int) api.Lease {
	return api.Lease{
		Addr: 0xf1f2f3f4, Bind: bind, Client: "ab\x00\xff",
		Until: 0x009192939495, Acked: 0x00a1a2a3a4a5, Told: 0x008182838485, At: 0x007172737475, Ver: 0x006162636465,
	}
}

// spare is a lease that nobody has.
func spare(bind int) api.Lease {
	return api.Lease{Addr: 0xf1f2f3f4, Bind: bind, Ver: 0x006162636465}
}

// isHeld is whether somebody has, or had, what is bound so.
func isHeld(bind int) bool { return bind == 2 || bind == 3 || bind == 4 }

// isSpare is whether nobody has what is bound so.
func isSpare(bind int) bool { return bind == 0 || bind == 1 || bind == 5 }

// ofEachBind is a valid lease of each Bind, and some more that are valid, too.
func ofEachBind() []api.Lease {
	short, long, last := held(2), held(3), held(4)
	short.Client = "\x00"
	long.Client = strings.Repeat("x", 32)
	last.Until, last.Acked, last.Told, last.At, last.Ver = most, most, most, most, most
	return []api.Lease{
		spare(0), spare(1), held(2), held(3), held(4), spare(5), short, long, last,
		{}, {Bind: 1}, {Bind: 5}, {Bind: 2, Client: "a"}, {Bind: 3, Client: "a"}, {Bind: 4, Client: "a"},
	}
}

// field is a number of a lease: the place of its six bytes in the encoding, and
// whether it is a time, which what nobody has does not have.
type field struct {
	name string
	at   int
	time bool
	in   func(l *api.Lease) *int
}

// fields are the four times, and Ver, in the order of the encoding.
func fields() []field {
	return []field{
		{"Until", 5, true, func(l *api.Lease) *int { return &l.Until }},
		{"Acked", 11, true, func(l *api.Lease) *int { return &l.Acked }},
		{"Told", 17, true, func(l *api.Lease) *int { return &l.Told }},
		{"At", 23, true, func(l *api.Lease) *int { return &l.At }},
		{"Ver", 29, false, func(l *api.Lease) *int { return &l.Ver }},
	}
}

// places are what is before, at and behind the edges of a moment, and numbers
// some of whose last bytes are one.
func places() []int {
	return []int{
		math.MinInt, math.MinInt + 1, -1 << 48, -1 << 40, -256, -1, 0, 1, 255, 256, 1<<32 - 1, 1 << 32,
		most - 1, most, most + 1, 2 * most, 1<<48 - 1, 1 << 48, 1<<48 + 1, 1<<56 + 1, math.MaxInt - 1, math.MaxInt,
	}
}

// valid is whether l is valid, by the chapter's words.
func valid(l api.Lease) bool {
	for _, n := range []int{l.Until, l.Acked, l.Told, l.At, l.Ver} {
		if n < 0 || n > most {
			return false
		}
	}
	if isHeld(l.Bind) {
		return len(l.Client) > 0 && len(l.Client) < 33
	}
	return isSpare(l.Bind) && l.Client == "" && l.Until == 0 && l.Acked == 0 && l.Told == 0 && l.At == 0
}

// digits are the last so many bytes of n, the most significant one first.
func digits(n, size int) []byte {
	b := make([]byte, size)
	for i := range b {
		b[size-1-i] = byte(n)
		n >>= 8
	}
	return b
}

// told is the encoding of l by the chapter's words, whether l is valid or not.
func told(l api.Lease) []byte {
	return slices.Concat(
		digits(int(l.Addr), 4), []byte{byte(l.Bind)},
		digits(l.Until, 6), digits(l.Acked, 6), digits(l.Told, 6), digits(l.At, 6), digits(l.Ver, 6),
		[]byte{byte(len(l.Client))}, []byte(l.Client))
}

// accept fails unless l is valid, its encoding is that of the chapter, and is decoded as it.
func accept(t *testing.T, what string, l api.Lease) {
	t.Helper()
	if !lease.Right(l) {
		t.Errorf("%s: Right(%+v) = false", what, l)
	}
	b, e := lease.Encode(l)
	if !bytes.Equal(b, told(l)) || e != api.OK {
		t.Errorf("%s: Encode(%+v) = %v, %d, want %v, OK", what, l, b, e, told(l))
	}
	if m, e := lease.Decode(told(l)); m != l || e != api.OK {
		t.Errorf("%s: Decode(%v) = %+v, %d, want %+v, OK", what, told(l), m, e, l)
	}
}

// refuse fails unless l is not valid.
func refuse(t *testing.T, what string, l api.Lease) {
	t.Helper()
	if lease.Right(l) {
		t.Errorf("%s: Right(%+v) = true", what, l)
	}
	if b, e := lease.Encode(l); len(b) != 0 || e != api.ErrArg {
		t.Errorf("%s: Encode(%+v) = %v, %d, want nothing, ErrArg", what, l, b, e)
	}
}

// judge is accept, or refuse, as the chapter says of l; it tells which.
func judge(t *testing.T, what string, l api.Lease) bool {
	t.Helper()
	if valid(l) {
		accept(t, what, l)
		return true
	}
	refuse(t, what, l)
	return false
}

// refuseBytes fails unless b stands for no lease.
func refuseBytes(t *testing.T, what string, b []byte) {
	t.Helper()
	if l, e := lease.Decode(b); l != (api.Lease{}) || e != api.ErrForm {
		t.Errorf("%s: Decode(%v) = %+v, %d, want nothing, ErrForm", what, b, l, e)
	}
}

// decoded fails unless b is decoded as l.
func decoded(t *testing.T, what string, b []byte, l api.Lease) {
	t.Helper()
	if m, e := lease.Decode(b); m != l || e != api.OK {
		t.Errorf("%s: Decode(%v) = %+v, %d, want %+v, OK", what, b, m, e, l)
	}
}

// P11.1: Right and Encode

func TestEncodeByteByByte(t *testing.T) {
	none := make([]byte, 24)
	full := []byte{
		0, 0x91, 0x92, 0x93, 0x94, 0x95, 0, 0xa1, 0xa2, 0xa3, 0xa4, 0xa5,
		0, 0x81, 0x82, 0x83, 0x84, 0x85, 0, 0x71, 0x72, 0x73, 0x74, 0x75,
	}
	addr := []byte{0xf1, 0xf2, 0xf3, 0xf4}
	ver := []byte{0, 0x61, 0x62, 0x63, 0x64, 0x65}
	last := []byte{1, 0, 0, 0, 0, 0}
	name := []byte{4, 'a', 'b', 0, 255}
	for _, c := range []struct {
		l    api.Lease
		want []byte
	}{
		{spare(api.Free), slices.Concat(addr, []byte{0}, none, ver, []byte{0})},
		{spare(api.Backup), slices.Concat(addr, []byte{1}, none, ver, []byte{0})},
		{held(api.Active), slices.Concat(addr, []byte{2}, full, ver, name)},
		{held(api.Expired), slices.Concat(addr, []byte{3}, full, ver, name)},
		{held(api.Released), slices.Concat(addr, []byte{4}, full, ver, name)},
		{spare(api.Abandoned), slices.Concat(addr, []byte{5}, none, ver, []byte{0})},
		{api.Lease{}, make([]byte, 36)},
		{
			api.Lease{Bind: 4, Client: strings.Repeat("z", 32), Until: most, Acked: most, Told: most, At: most, Ver: most},
			slices.Concat([]byte{0, 0, 0, 0, 4}, last, last, last, last, last, []byte{32}, bytes.Repeat([]byte{'z'}, 32)),
		},
		{
			api.Lease{Addr: 5, Bind: 2, Client: "a", Until: 258, Acked: 3, Told: 4, At: 5, Ver: 6},
			[]byte{0, 0, 0, 5, 2, 0, 0, 0, 0, 1, 2, 0, 0, 0, 0, 0, 3, 0, 0, 0, 0, 0, 4, 0, 0, 0, 0, 0, 5, 0, 0, 0, 0, 0, 6, 1, 'a'},
		},
	} {
		if !lease.Right(c.l) {
			t.Errorf("Right(%+v) = false", c.l)
		}
		if b, e := lease.Encode(c.l); !bytes.Equal(b, c.want) || e != api.OK {
			t.Errorf("Encode(%+v) = %v, %d, want %v, OK", c.l, b, e, c.want)
		}
		decoded(t, "byte by byte", c.want, c.l)
	}
}

func TestEveryBind(t *testing.T) {
	binds := []int{math.MinInt, math.MinInt + 2, -256, -254, 254, 255, 256, 257, 258, 261, 1<<32 + 2, 1<<40 + 2, math.MaxInt}
	for bind := -10; bind <= 20; bind++ {
		binds = append(binds, bind)
	}
	for _, bind := range binds {
		for _, l := range []api.Lease{{}, {Client: "a"}, {Ver: 1}, {Until: 1}, spare(bind), held(bind)} {
			l.Bind = bind
			is := judge(t, "Bind", l)
			if want := isSpare(bind) && l.Client == "" && l.Until == 0 || isHeld(bind) && l.Client != ""; is != want {
				t.Errorf("%+v: valid is %t, want %t", l, is, want)
			}
		}
	}
}

func TestNumbersAtTheEdges(t *testing.T) {
	for _, f := range fields() {
		for _, l := range ofEachBind() {
			for _, n := range places() {
				*f.in(&l) = n
				switch {
				case n < 0 || n > most:
					refuse(t, f.name+", which is no moment", l)
				case n != 0 && f.time && isSpare(l.Bind):
					refuse(t, f.name+" of what nobody has", l)
				default:
					accept(t, f.name, l)
				}
			}
		}
	}
}

func TestTwoNumbersAtTheEdges(t *testing.T) {
	few := []int{math.MinInt, -1, 0, 1, most, most + 1, math.MaxInt}
	for i, f := range fields() {
		for _, g := range fields()[i+1:] {
			for bind := -1; bind <= 6; bind++ {
				for _, n := range few {
					for _, m := range few {
						l := held(bind)
						if isSpare(bind) {
							l = spare(bind)
						}
						*f.in(&l), *g.in(&l) = n, m
						judge(t, f.name+" and "+g.name, l)
					}
				}
			}
		}
	}
}

func TestNumbersBesideOneAnother(t *testing.T) {
	for _, l := range []api.Lease{
		{Bind: 2, Client: "a", Until: 1, Acked: 2, Told: 3, At: 4},
		{Bind: 2, Client: "a", Until: 4, Acked: 3, Told: 2, At: 1},
		{Bind: 3, Client: "a", Until: 0, Acked: most, Told: 0, At: most},
		{Bind: 4, Client: "a", Until: most, Acked: 0, Told: most, At: 0},
	} {
		accept(t, "numbers in any order", l)
	}
}

func TestAddrAtTheEdges(t *testing.T) {
	for _, a := range []api.Addr{0, 1, 255, 256, 65535, 65536, 1<<31 - 1, 1 << 31, 1<<32 - 2, 1<<32 - 1} {
		for _, l := range ofEachBind() {
			l.Addr = a
			accept(t, "Addr", l)
		}
	}
}

func TestClientOfEveryLength(t *testing.T) {
	lengths := []int{255, 256, 257, 256 + 32, 65536, 65536 + 4}
	for n := range 70 {
		lengths = append(lengths, n)
	}
	for _, n := range lengths {
		for _, text := range []string{"\x00", "a", "\xff"} {
			for _, l := range ofEachBind() {
				l.Client = strings.Repeat(text, n)
				if n == 0 && isSpare(l.Bind) || n >= 1 && n <= 32 && isHeld(l.Bind) {
					accept(t, "Client", l)
				} else {
					refuse(t, "Client", l)
				}
			}
			for _, bind := range []int{-1, 6} {
				l := held(bind)
				l.Client = strings.Repeat(text, n)
				refuse(t, "Client, with no Bind", l)
			}
		}
	}
}

func TestClientWithEveryByte(t *testing.T) {
	for c := range 256 {
		l := held(api.Active)
		l.Client = string([]byte{byte(c), 0, byte(c)})
		accept(t, "Client", l)
		l.Client = string([]byte{byte(c)})
		accept(t, "Client of one byte", l)
	}
	l := held(api.Released)
	l.Client = "\u00fc\u4e16"
	accept(t, "Client with runes", l)
	l.Client = strings.Repeat("\u4e16", 11)
	refuse(t, "Client of 11 runes, which are 33 bytes", l)
}

func TestWhatNobodyHas(t *testing.T) {
	for _, bind := range []int{api.Free, api.Backup, api.Abandoned} {
		for _, f := range fields() {
			l := api.Lease{Addr: 7, Bind: bind}
			*f.in(&l) = 1
			if f.time {
				refuse(t, f.name+" of what nobody has", l)
			} else {
				accept(t, f.name, l)
			}
			l.Client = "a"
			refuse(t, "Client and "+f.name+" of what nobody has", l)
		}
		for _, name := range []string{"\x00", "a", strings.Repeat("a", 32), strings.Repeat("a", 33)} {
			refuse(t, "Client of what nobody has", api.Lease{Addr: 7, Bind: bind, Client: name})
		}
	}
}

func TestSeveralFaultsAreErrArg(t *testing.T) {
	refuse(t, "all is wrong", api.Lease{Addr: 1, Bind: 6, Client: strings.Repeat("x", 33), Until: -1, Acked: -1, Told: -1, At: -1, Ver: -1})
	for _, l := range ofEachBind() {
		l.Until, l.Acked, l.Told, l.At, l.Ver = -1, most+1, -1, most+1, -1
		refuse(t, "all numbers are wrong", l)
	}
}

// P11.1: Decode

func TestDecodeRefusesEveryTruncation(t *testing.T) {
	for _, l := range ofEachBind() {
		b := told(l)
		for n := range b {
			refuseBytes(t, "truncated", b[:n:n])
			refuseBytes(t, "truncated, with the rest behind it", b[:n])
			checkAny(t, append(slices.Clone(b[:n]), make([]byte, len(b)-n)...))
		}
	}
	for _, l := range []api.Lease{spare(api.Free), held(api.Active)} {
		b := told(l)
		for n := range b {
			refuseBytes(t, "without a byte", slices.Delete(slices.Clone(b), n, n+1))
			refuseBytes(t, "without the first bytes", b[n+1:])
		}
	}
	refuseBytes(t, "nil", nil)
	refuseBytes(t, "empty", []byte{})
}

func TestDecodeRefusesMoreBytes(t *testing.T) {
	for _, l := range ofEachBind() {
		b := told(l)
		for value := range 256 {
			refuseBytes(t, "one byte more", append(slices.Clone(b), byte(value)))
		}
		refuseBytes(t, "two leases", slices.Repeat(b, 2))
		refuseBytes(t, "bytes 0 behind it", append(slices.Clone(b), make([]byte, 300)...))
		refuseBytes(t, "256 bytes behind it", append(slices.Clone(b), make([]byte, 256)...))
	}
}

func TestDecodeOfBytes0(t *testing.T) {
	for n := range 300 {
		b := make([]byte, n)
		if n == 36 {
			decoded(t, "36 bytes 0", b, api.Lease{})
		} else {
			refuseBytes(t, "bytes 0", b)
		}
	}
}

func TestDecodeOfEveryBind(t *testing.T) {
	for _, l := range ofEachBind() {
		b := told(l)
		for value := range 256 {
			b[4] = byte(value)
			want := l
			want.Bind = value
			if isSpare(value) && (l.Client != "" || l.Until != 0) || isHeld(value) && l.Client == "" || value > 5 {
				refuseBytes(t, "Bind", b)
			} else {
				decoded(t, "Bind", b, want)
			}
		}
	}
}

func TestDecodeOfNumbersAtTheEdges(t *testing.T) {
	const whole = 1 << 48
	for _, f := range fields() {
		for _, l := range ofEachBind() {
			for _, n := range append(places(), whole-1, whole/2, whole/2-1, whole/2+1, most|1, most|1<<41, 1<<47|1) {
				n &= whole - 1
				b := told(l)
				copy(b[f.at:], digits(n, 6))
				want := l
				*f.in(&want) = n
				if n > most || n != 0 && f.time && isSpare(l.Bind) {
					refuseBytes(t, f.name, b)
				} else {
					decoded(t, f.name, b, want)
				}
			}
		}
	}
}

func TestDecodeOfEveryLengthOfClient(t *testing.T) {
	for bind := range 7 {
		for size := range 300 {
			l := api.Lease{Addr: 9, Bind: bind, Client: strings.Repeat("x", size), Ver: 8}
			b := told(l)
			for value := range 256 {
				b[35] = byte(value)
				if value == size && (isSpare(bind) && size == 0 || isHeld(bind) && size >= 1 && size <= 32) {
					decoded(t, "a length of Client", b, l)
				} else {
					refuseBytes(t, "a length of Client", b)
				}
			}
		}
	}
}

func TestDecodeOfEveryOtherByte(t *testing.T) {
	for _, l := range ofEachBind() {
		b := told(l)
		for at := range b {
			for value := range 256 {
				c := slices.Clone(b)
				c[at] = byte(value)
				is := checkAny(t, c)
				// The address, and all of Client, may be any; the length is fixed by the rest.
				if (at < 4 || at > 35 || value == int(b[at])) && !is {
					t.Errorf("Decode(%v) is refused, though only byte %d of %+v differs", c, at, l)
				}
				if at == 35 && value != int(b[at]) && is {
					t.Errorf("Decode(%v) is a lease, though Client has another length", c)
				}
			}
		}
	}
}

// P11.1: Bare and Over

func TestBare(t *testing.T) {
	binds := append(places(), 2, 3, 4, 5, 6, 258, 1<<32+1)
	for _, a := range []api.Addr{0, 1, 5, 0xf1f2f3f4, 1<<32 - 1} {
		for _, bind := range binds {
			for _, ver := range places() {
				l := lease.Bare(a, bind, ver)
				if want := (api.Lease{Addr: a, Bind: bind, Ver: ver}); l != want {
					t.Errorf("Bare(%d, %d, %d) = %+v, want %+v", a, bind, ver, l, want)
				}
				if !isSpare(bind) || ver < 0 || ver > most {
					refuse(t, "Bare", l)
					continue
				}
				accept(t, "Bare", l)
				if b, e := lease.Encode(l); len(b) != 36 || e != api.OK {
					t.Errorf("the encoding of Bare(%d, %d, %d) has %d bytes, %d, want 36, OK", a, bind, ver, len(b), e)
				}
			}
		}
	}
}

func TestExampleOfTheChapter(t *testing.T) {
	b, e := lease.Encode(lease.Bare(5, api.Free, 3))
	want := make([]byte, 36)
	want[3], want[34] = 5, 3
	if !bytes.Equal(b, want) || e != api.OK {
		t.Errorf("Encode(Bare(5, Free, 3)) = %v, %d, want %v, OK", b, e, want)
	}
}

func TestOver(t *testing.T) {
	for _, c := range []struct{ until, told, want int }{
		{0, 0, 0}, {1, 0, 1}, {0, 1, 1}, {5, 9, 9}, {9, 5, 9}, {7, 7, 7},
		{most, 0, most}, {0, most, most}, {most, most - 1, most}, {most - 1, most, most}, {most, most, most},
		{-1, -2, -1}, {-2, -1, -1}, {-1, 0, 0}, {most + 1, most, most + 1},
		{math.MinInt, math.MaxInt, math.MaxInt}, {math.MaxInt, math.MinInt, math.MaxInt},
		{math.MinInt, math.MinInt, math.MinInt}, {math.MinInt, -1, -1}, {math.MaxInt, math.MaxInt, math.MaxInt},
	} {
		for _, n := range places() {
			for bind := -1; bind <= 6; bind++ {
				l := api.Lease{Addr: 3, Bind: bind, Client: "a", Until: c.until, Acked: n, Told: c.told, At: n, Ver: n}
				if got := lease.Over(l); got != c.want {
					t.Errorf("Over(%+v) = %d, want %d", l, got, c.want)
				}
			}
		}
	}
}

func TestOverOfEveryPair(t *testing.T) {
	for _, until := range places() {
		for _, told := range places() {
			n := lease.Over(api.Lease{Bind: 2, Client: "a", Until: until, Told: told})
			if n < until || n < told || n != until && n != told {
				t.Errorf("Over with Until %d and Told %d = %d", until, told, n)
			}
		}
	}
}

// P11.2, P1 and P2

func TestWhatNobodyHasIsPromisedToNobody(t *testing.T) {
	for _, bind := range []int{api.Free, api.Backup, api.Abandoned} {
		for _, ver := range []int{0, 1, most} {
			if l := lease.Bare(9, bind, ver); !lease.Right(l) || lease.Over(l) != 0 || l.Client != "" {
				t.Errorf("Bare(9, %d, %d) = %+v: valid %t, over at %d", bind, ver, l, lease.Right(l), lease.Over(l))
			}
		}
	}
	r := rand.New(rand.NewSource(3))
	for range 20000 {
		l := changed(r, anyLease(r))
		if lease.Right(l) && isSpare(l.Bind) && (lease.Over(l) != 0 || l.Client != "") {
			t.Errorf("%+v is valid, and promised", l)
		}
	}
}

// anyLease is a valid lease of any Bind.
func anyLease(r *rand.Rand) api.Lease {
	l := api.Lease{Addr: api.Addr(r.Uint32()), Bind: r.Intn(6), Ver: r.Intn(most + 1)}
	if isHeld(l.Bind) {
		l.Until, l.Acked, l.Told, l.At = r.Intn(most+1), r.Intn(most+1), r.Intn(most+1), r.Intn(most+1)
		name := make([]byte, 1+r.Intn(32))
		r.Read(name)
		l.Client = string(name)
	}
	return l
}

// changed is l with another value in one field, or with the one that it has.
func changed(r *rand.Rand, l api.Lease) api.Lease {
	n := []int{-1, 0, 1, 2, 5, 6, most - 1, most, most + 1, r.Intn(most)}[r.Intn(10)]
	switch i := r.Intn(8); i {
	case 5:
		l.Addr = api.Addr(n)
	case 6:
		l.Bind = r.Intn(8) - 1
	case 7:
		l.Client = strings.Repeat("x", r.Intn(35))
	default:
		*fields()[i].in(&l) = n
	}
	return l
}

func TestAnyLease(t *testing.T) {
	r := rand.New(rand.NewSource(1))
	right, wrong := 0, 0
	of := map[string]api.Lease{}
	for range 50000 {
		l := anyLease(r)
		for range r.Intn(3) {
			l = changed(r, l)
		}
		if !judge(t, "any", l) {
			wrong++
			continue
		}
		right++
		b := string(told(l))
		if m, is := of[b]; is && m != l {
			t.Fatalf("%+v and %+v have the same encoding", l, m)
		}
		of[b] = l
	}
	if right < 10000 || wrong < 10000 {
		t.Errorf("only %d leases that are valid, and %d that are not", right, wrong)
	}
}

// checkAny fails unless b is decoded as the lease that it is the encoding of, or
// refused, as no lease has that encoding; it tells which.
func checkAny(t *testing.T, b []byte) bool {
	t.Helper()
	before := slices.Clone(b)
	l, e := lease.Decode(b)
	if !bytes.Equal(b, before) {
		t.Fatalf("Decode changed %v into %v", before, b)
	}
	want, is := read(b)
	if !is {
		if e != api.ErrForm || l != (api.Lease{}) {
			t.Fatalf("Decode(%v) = %+v, %d, want nothing, ErrForm", b, l, e)
		}
		return false
	}
	if e != api.OK || l != want {
		t.Fatalf("Decode(%v) = %+v, %d, want %+v, OK", b, l, e, want)
	}
	if c, e := lease.Encode(l); !bytes.Equal(b, c) || e != api.OK || !lease.Right(l) {
		t.Fatalf("Decode(%v) = %+v, whose encoding is %v, %d", b, l, c, e)
	}
	return true
}

// read is the valid lease of which b is the encoding, by the chapter's words, if there is one.
func read(b []byte) (api.Lease, bool) {
	if len(b) < 36 {
		return api.Lease{}, false
	}
	number := func(from, to int) int {
		n := 0
		for _, c := range b[from:to] {
			n = n*256 + int(c)
		}
		return n
	}
	l := api.Lease{Addr: api.Addr(number(0, 4)), Bind: int(b[4]), Client: string(b[36:])}
	for _, f := range fields() {
		*f.in(&l) = number(f.at, f.at+6)
	}
	if !valid(l) || !bytes.Equal(told(l), b) {
		return api.Lease{}, false
	}
	return l, true
}

func TestDecodeOfAnyBytes(t *testing.T) {
	r := rand.New(rand.NewSource(2))
	for range 20000 {
		b := make([]byte, r.Intn(80))
		r.Read(b)
		checkAny(t, b)
	}
	right, wrong := 0, 0
	for range 50000 {
		b := told(anyLease(r))
		for range 1 + r.Intn(2) {
			b[r.Intn(len(b))] = []byte{0, 1, 2, 3, 4, 5, 6, 32, 33, 255, byte(r.Intn(256))}[r.Intn(11)]
		}
		switch r.Intn(6) {
		case 0:
			b = b[:r.Intn(len(b)+1)]
		case 1:
			b = append(b, make([]byte, r.Intn(20))...)
		}
		if checkAny(t, b) {
			right++
		} else {
			wrong++
		}
	}
	if right < 5000 || wrong < 5000 {
		t.Errorf("only %d bytes that are leases, and %d that are not", right, wrong)
	}
}

func TestGreatArguments(t *testing.T) {
	for bind := range 7 {
		b := make([]byte, 1<<22)
		b[4] = byte(bind)
		for _, b[35] = range []byte{0, 1, 32, 255} {
			if l, e := lease.Decode(b); l != (api.Lease{}) || e != api.ErrForm {
				t.Errorf("Decode of many bytes of Bind %d: %d, want nothing, ErrForm", bind, e)
			}
		}
		l := api.Lease{Bind: bind, Client: string(b)}
		if c, e := lease.Encode(l); len(c) != 0 || e != api.ErrArg || lease.Right(l) {
			t.Errorf("Encode of a long Client of Bind %d: %d bytes, %d, want nothing, ErrArg", bind, len(c), e)
		}
	}
}

func FuzzDecode(f *testing.F) {
	for _, l := range ofEachBind() {
		f.Add(told(l))
	}
	f.Fuzz(func(t *testing.T, b []byte) { checkAny(t, b) })
}

// R3

func TestDecodeSharesNoMemory(t *testing.T) {
	for _, l := range ofEachBind() {
		b := told(l)
		m, _ := lease.Decode(b)
		clear(b)
		if m != l {
			t.Errorf("what Decode returned changed with its argument: %+v, want %+v", m, l)
		}
	}
}

func TestEncodeReturnsNewMemory(t *testing.T) {
	for _, l := range ofEachBind() {
		b, _ := lease.Encode(l)
		c, _ := lease.Encode(l)
		b = b[:cap(b)]
		for i := range b {
			b[i] ^= 255
		}
		d, _ := lease.Encode(l)
		if !bytes.Equal(c, told(l)) || !bytes.Equal(d, told(l)) {
			t.Errorf("an encoding of %+v changed with another one: %v, %v", l, c, d)
		}
	}
}
