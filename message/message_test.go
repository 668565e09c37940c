package message_test

import (
	"bytes"
	"math"
	"math/rand"
	"slices"
	"strings"
	"testing"

	"lessor/api"
	"lessor/message"
)

// Messages of each kind of which no two fields have a byte in common.
func hello() api.Message {
	return api.Message{Kind: api.Hello, Life: 0x11121314, Seen: 0x01020304, Xid: 0x21222324, State: 6}
}

func update() api.Message {
	return api.Message{
		Kind: api.Update, Life: 0x11121314, Seen: 0x01020304, Xid: 0x21222324,
		Addr: 0xf1f2f3f4, Bind: 4, Client: "ab\x00\xff", Pot: 0x009192939495, At: 0x00a1a2a3a4a5,
	}
}

func ack() api.Message {
	return api.Message{Kind: api.Ack, Life: 0x11121314, Seen: 0x01020304, Xid: 0x21222324, Ok: true}
}

func all() api.Message {
	return api.Message{Kind: api.All, Life: 0x11121314, Seen: 0x01020304}
}

func done() api.Message {
	return api.Message{Kind: api.Done, Life: 0x11121314, Seen: 0x01020304}
}

// ofEachKind is a valid message of each kind, and some that are valid, too.
func ofEachKind() []api.Message {
	no, short, long := ack(), update(), update()
	no.Ok = false
	short.Client = ""
	long.Client = strings.Repeat("x", 32)
	return []api.Message{hello(), update(), ack(), all(), done(), no, short, long}
}

// field is one of a message that is a number: which kinds have it, its range,
// and the place and the size of it in the encoding.
type field struct {
	name      string
	kinds     []int
	low, high int
	at, size  int
	in        func(m *api.Message) *int
}

// fields are all fields that are numbers, but for Kind and Addr.
func fields() []field {
	every := []int{api.Hello, api.Update, api.Ack, api.All, api.Done}
	return []field{
		{"Life", every, 1, 1 << 29, 1, 4, func(m *api.Message) *int { return &m.Life }},
		{"Seen", every, 0, 1 << 29, 5, 4, func(m *api.Message) *int { return &m.Seen }},
		{"Xid", every[:3], 1, 1 << 30, 9, 4, func(m *api.Message) *int { return &m.Xid }},
		{"State", every[:1], 0, 8, 13, 1, func(m *api.Message) *int { return &m.State }},
		{"Bind", every[1:2], 0, 5, 17, 1, func(m *api.Message) *int { return &m.Bind }},
		{"Pot", every[1:2], 0, 1 << 40, 18, 6, func(m *api.Message) *int { return &m.Pot }},
		{"At", every[1:2], 0, 1 << 40, 24, 6, func(m *api.Message) *int { return &m.At }},
	}
}

// places are what is before, at, and behind the edges of a range, and numbers
// whose last bytes are in it.
func places(f field) []int {
	return []int{
		math.MinInt, math.MinInt + 1, -1 << 48, -1 << 32, -256, -1, f.low - 1, f.low, f.low + 1,
		(f.low + f.high) / 2, f.high - 1, f.high, f.high + 1, 256 + f.low, 1<<32 + 1, 1<<48 + 1, 1<<56 + 1, math.MaxInt,
	}
}

// digits are the last so many bytes of n, the most significant one first.
func digits(n, size int) []byte {
	b := make([]byte, size)
	for i := range b {
		b[size-1-i] = byte(n)
		n >>= 8
	}
	return b
}

// told is the encoding of m, as the chapter lists it, whether m is valid or not.
func told(m api.Message) []byte {
	b := append([]byte{byte(m.Kind)}, digits(m.Life, 4)...)
	b = append(b, digits(m.Seen, 4)...)
	switch m.Kind {
	case api.Hello:
		b = append(append(b, digits(m.Xid, 4)...), byte(m.State))
	case api.Ack:
		b = append(append(b, digits(m.Xid, 4)...), 0)
		if m.Ok {
			b[13] = 1
		}
	case api.Update:
		b = append(append(b, digits(m.Xid, 4)...), digits(int(m.Addr), 4)...)
		b = append(append(b, byte(m.Bind)), digits(m.Pot, 6)...)
		b = append(append(b, digits(m.At, 6)...), byte(len(m.Client)))
		b = append(b, m.Client...)
	}
	return b
}

// encoded is the encoding of m, or the end of the test.
func encoded(t *testing.T, m api.Message) []byte {
	t.Helper()
	b, e := message.Encode(m)
	if e != api.OK {
		t.Fatalf("Encode(%+v): %d", m, e)
	}
	return b
}

// accept fails unless m is valid, its encoding is that of the chapter, and is decoded as it.
func accept(t *testing.T, what string, m api.Message) {
	t.Helper()
	if !message.Right(m) {
		t.Errorf("%s: Right(%+v) = false", what, m)
	}
	b, e := message.Encode(m)
	if !bytes.Equal(b, told(m)) || e != api.OK {
		t.Errorf("%s: Encode(%+v) = %v, %d, want %v, OK", what, m, b, e, told(m))
	}
	if n, e := message.Decode(b); n != m || e != api.OK {
		t.Errorf("%s: Decode of Encode = %+v, %d, want %+v, OK", what, n, e, m)
	}
}

// refuse fails unless m is not valid.
func refuse(t *testing.T, what string, m api.Message) {
	t.Helper()
	if message.Right(m) {
		t.Errorf("%s: Right(%+v) = true", what, m)
	}
	if b, e := message.Encode(m); len(b) != 0 || e != api.ErrArg {
		t.Errorf("%s: Encode(%+v) = %v, %d, want nothing, ErrArg", what, m, b, e)
	}
}

// refuseBytes fails unless b stands for no message.
func refuseBytes(t *testing.T, what string, b []byte) {
	t.Helper()
	if m, e := message.Decode(b); m != (api.Message{}) || e != api.ErrForm {
		t.Errorf("%s: Decode(%v) = %+v, %d, want nothing, ErrForm", what, b, m, e)
	}
}

// P4.1: Right and Encode

func TestEncodeOfEveryKind(t *testing.T) {
	begin := []byte{0x11, 0x12, 0x13, 0x14, 1, 2, 3, 4}
	xid := []byte{0x21, 0x22, 0x23, 0x24}
	no := ack()
	no.Ok = false
	for _, c := range []struct {
		m    api.Message
		want []byte
	}{
		{hello(), slices.Concat([]byte{1}, begin, xid, []byte{6})},
		{update(), slices.Concat([]byte{2}, begin, xid, []byte{0xf1, 0xf2, 0xf3, 0xf4, 4},
			[]byte{0, 0x91, 0x92, 0x93, 0x94, 0x95, 0, 0xa1, 0xa2, 0xa3, 0xa4, 0xa5, 4, 'a', 'b', 0, 255})},
		{ack(), slices.Concat([]byte{3}, begin, xid, []byte{1})},
		{no, slices.Concat([]byte{3}, begin, xid, []byte{0})},
		{all(), slices.Concat([]byte{4}, begin)},
		{done(), slices.Concat([]byte{5}, begin)},
		{api.Message{Kind: api.Hello, Life: 1, Seen: 2, Xid: 4, State: 3}, []byte{1, 0, 0, 0, 1, 0, 0, 0, 2, 0, 0, 0, 4, 3}},
		{api.Message{Kind: api.Hello, Life: 1, Xid: 1}, []byte{1, 0, 0, 0, 1, 0, 0, 0, 0, 0, 0, 0, 1, 0}},
		{api.Message{Kind: api.Update, Life: 1, Xid: 1}, append([]byte{2, 0, 0, 0, 1, 0, 0, 0, 0, 0, 0, 0, 1}, make([]byte, 18)...)},
		{api.Message{Kind: api.Ack, Life: 1, Xid: 1}, []byte{3, 0, 0, 0, 1, 0, 0, 0, 0, 0, 0, 0, 1, 0}},
		{api.Message{Kind: api.All, Life: 1}, []byte{4, 0, 0, 0, 1, 0, 0, 0, 0}},
		{api.Message{Kind: api.Done, Life: 1}, []byte{5, 0, 0, 0, 1, 0, 0, 0, 0}},
	} {
		if !message.Right(c.m) {
			t.Errorf("Right(%+v) = false", c.m)
		}
		if b, e := message.Encode(c.m); !bytes.Equal(b, c.want) || e != api.OK {
			t.Errorf("Encode(%+v) = %v, %d, want %v, OK", c.m, b, e, c.want)
		}
		if m, e := message.Decode(c.want); m != c.m || e != api.OK {
			t.Errorf("Decode(%v) = %+v, %d, want %+v, OK", c.want, m, e, c.m)
		}
	}
}

func TestEveryKind(t *testing.T) {
	for _, kind := range []int{math.MinInt, -256, -1, 0, 1, 2, 3, 4, 5, 6, 7, 255, 256, 257, 258, 261, 1<<32 + 4, math.MaxInt} {
		for _, m := range []api.Message{{Life: 1}, {Life: 1, Xid: 1}} {
			m.Kind = kind
			if kind >= 1 && kind <= 3 && m.Xid == 1 || (kind == 4 || kind == 5) && m.Xid == 0 {
				accept(t, "Kind", m)
			} else {
				refuse(t, "Kind", m)
			}
		}
	}
	refuse(t, "the zero value", api.Message{})
}

func TestNumbersAtTheEdges(t *testing.T) {
	for _, f := range fields() {
		for _, m := range ofEachKind() {
			for _, n := range places(f) {
				*f.in(&m) = n
				switch {
				case !slices.Contains(f.kinds, m.Kind) && n != 0:
					refuse(t, f.name+", which the kind does not have", m)
				case slices.Contains(f.kinds, m.Kind) && (n < f.low || n > f.high):
					refuse(t, f.name, m)
				default:
					accept(t, f.name, m)
				}
			}
		}
	}
}

func TestAddrAtTheEdges(t *testing.T) {
	for _, a := range []api.Addr{0, 1, 255, 256, 1<<31 - 1, 1 << 31, 1<<32 - 2, 1<<32 - 1} {
		for _, m := range ofEachKind() {
			m.Addr = a
			if m.Kind == api.Update || a == 0 {
				accept(t, "Addr", m)
			} else {
				refuse(t, "Addr, which the kind does not have", m)
			}
		}
	}
}

func TestClientOfEveryLength(t *testing.T) {
	lengths := []int{255, 256, 257, 256 + 32, 65536, 65536 + 4}
	for n := range 70 {
		lengths = append(lengths, n)
	}
	for _, n := range lengths {
		for _, text := range []string{"\x00", "a", "\xff"} {
			for _, m := range ofEachKind() {
				m.Client = strings.Repeat(text, n)
				if n == 0 || m.Kind == api.Update && n <= 32 {
					accept(t, "Client", m)
				} else {
					refuse(t, "Client", m)
				}
			}
		}
	}
}

func TestClientWithEveryByte(t *testing.T) {
	for c := range 256 {
		m := update()
		m.Client = string([]byte{byte(c), 0, byte(c)})
		accept(t, "Client", m)
	}
	m := update()
	m.Client = "\u00fc\u4e16"
	accept(t, "Client with runes", m)
}

func TestOkOfEveryKind(t *testing.T) {
	for _, m := range ofEachKind() {
		m.Ok = true
		if m.Kind == api.Ack {
			accept(t, "Ok", m)
		} else {
			refuse(t, "Ok, which the kind does not have", m)
		}
		m.Ok = false
		accept(t, "not Ok", m)
	}
}

func TestSeveralFaultsAreErrArg(t *testing.T) {
	refuse(t, "all is wrong", api.Message{Kind: 6, Life: -1, Seen: -1, Xid: -1, State: 9, Addr: 1, Bind: 6, Client: strings.Repeat("x", 33), Pot: -1, At: -1, Ok: true})
	for _, m := range ofEachKind() {
		m.Life, m.Seen, m.Xid, m.State, m.Bind, m.Pot, m.At = 0, -1, 0, -1, -1, -1, -1
		refuse(t, "all numbers are too small", m)
	}
}

// P4.1: Decode

func TestDecodeRefusesEveryTruncation(t *testing.T) {
	for _, m := range ofEachKind() {
		b := encoded(t, m)
		for n := range b {
			refuseBytes(t, "truncated", b[:n:n])
			refuseBytes(t, "truncated, with the rest behind it", b[:n])
			refuseBytes(t, "without the first bytes", b[len(b)-n:])
			refuseBytes(t, "without a byte", slices.Delete(slices.Clone(b), n, n+1))
		}
	}
	refuseBytes(t, "nil", nil)
	refuseBytes(t, "empty", []byte{})
}

func TestDecodeRefusesMoreBytes(t *testing.T) {
	for _, m := range ofEachKind() {
		b := encoded(t, m)
		for value := range 256 {
			refuseBytes(t, "one byte more", append(slices.Clone(b), byte(value)))
		}
		refuseBytes(t, "two messages", slices.Repeat(b, 2))
		refuseBytes(t, "bytes 0 behind it", append(slices.Clone(b), make([]byte, 300)...))
	}
}

func TestDecodeOfEveryKind(t *testing.T) {
	for _, m := range ofEachKind() {
		b := encoded(t, m)
		for value := range 256 {
			c := slices.Clone(b)
			c[0] = byte(value)
			other, e := message.Decode(c)
			switch {
			case value == m.Kind:
				if other != m || e != api.OK {
					t.Errorf("Decode(%v) = %+v, %d, want %+v, OK", c, other, e, m)
				}
			case value == 4 && m.Kind == api.Done || value == 5 && m.Kind == api.All:
				if other.Kind != value || e != api.OK {
					t.Errorf("Decode(%v) = %+v, %d, want Kind %d, OK", c, other, e, value)
				}
			case value == 1 && m.Kind == api.Ack: // its Ok is read as a State
				if other.Kind != value || other.State > 1 || other.Ok || e != api.OK {
					t.Errorf("Decode(%v) = %+v, %d, want a Hello, OK", c, other, e)
				}
			default:
				refuseBytes(t, "another Kind", c)
			}
		}
	}
	for value := range 256 {
		b := []byte{byte(value), 0, 0, 0, 1, 0, 0, 0, 0}
		if value != 4 && value != 5 {
			refuseBytes(t, "a Kind that is not All or Done", b)
		} else if m, e := message.Decode(b); m != (api.Message{Kind: value, Life: 1}) || e != api.OK {
			t.Errorf("Decode(%v) = %+v, %d", b, m, e)
		}
	}
}

func TestDecodeOfEveryOk(t *testing.T) {
	for value := range 256 {
		m := ack()
		m.Ok = value == 1
		b := encoded(t, ack())
		b[13] = byte(value)
		if value > 1 {
			refuseBytes(t, "Ok", b)
		} else if n, e := message.Decode(b); n != m || e != api.OK {
			t.Errorf("Decode(%v) = %+v, %d, want %+v, OK", b, n, e, m)
		}
	}
}

func TestDecodeOfEveryLengthOfClient(t *testing.T) {
	for size := range 300 {
		m := update()
		m.Client = ""
		b := append(encoded(t, m), bytes.Repeat([]byte{'x'}, size)...)
		for value := range 256 {
			b[30] = byte(value)
			if value != size || size > 32 {
				refuseBytes(t, "a length of Client", b)
				continue
			}
			m.Client = strings.Repeat("x", size)
			if n, e := message.Decode(b); n != m || e != api.OK {
				t.Errorf("Decode(%v) = %+v, %d, want %+v, OK", b, n, e, m)
			}
		}
	}
}

func TestDecodeOfNumbersAtTheEdges(t *testing.T) {
	for _, f := range fields() {
		for _, m := range ofEachKind() {
			if !slices.Contains(f.kinds, m.Kind) {
				continue
			}
			whole := 1 << (8 * f.size)
			for _, n := range append(places(f), whole-1, whole/2, whole/2-1) {
				n &= whole - 1
				b := encoded(t, m)
				copy(b[f.at:], digits(n, f.size))
				want := m
				*f.in(&want) = n
				if n < f.low || n > f.high {
					refuseBytes(t, f.name, b)
				} else if got, e := message.Decode(b); got != want || e != api.OK {
					t.Errorf("%s: Decode(%v) = %+v, %d, want %+v, OK", f.name, b, got, e, want)
				}
			}
		}
	}
}

// P4.2, P1 and P2

// valid is whether m is valid, as the chapter says it.
func valid(m api.Message) bool {
	rest := m
	rest.Kind, rest.Life, rest.Seen = 0, 0, 0
	ok := m.Life >= 1 && m.Life <= 1<<29 && m.Seen >= 0 && m.Seen <= 1<<29
	switch m.Kind {
	case api.Hello:
		ok = ok && m.State >= 0 && m.State <= 8
		rest.State = 0
	case api.Ack:
		rest.Ok = false
	case api.Update:
		ok = ok && m.Bind >= 0 && m.Bind <= 5 && len(m.Client) <= 32
		ok = ok && m.Pot >= 0 && m.Pot <= 1<<40 && m.At >= 0 && m.At <= 1<<40
		rest.Addr, rest.Bind, rest.Client, rest.Pot, rest.At = 0, 0, "", 0, 0
	case api.All, api.Done:
		return ok && rest == api.Message{}
	default:
		return false
	}
	ok = ok && m.Xid >= 1 && m.Xid <= 1<<30
	rest.Xid = 0
	return ok && rest == api.Message{}
}

// anyMessage is a valid message of any kind.
func anyMessage(r *rand.Rand) api.Message {
	m := api.Message{Kind: 1 + r.Intn(5), Life: 1 + r.Intn(1<<29), Seen: r.Intn(1<<29 + 1)}
	if m.Kind <= api.Ack {
		m.Xid = 1 + r.Intn(1<<30)
	}
	switch m.Kind {
	case api.Hello:
		m.State = r.Intn(9)
	case api.Ack:
		m.Ok = r.Intn(2) == 1
	case api.Update:
		m.Addr, m.Bind, m.Pot, m.At = api.Addr(r.Uint32()), r.Intn(6), r.Intn(1<<40+1), r.Intn(1<<40+1)
		name := make([]byte, r.Intn(33))
		r.Read(name)
		m.Client = string(name)
	}
	return m
}

// changed is m with another value in one field.
func changed(r *rand.Rand, m api.Message) api.Message {
	n := []int{-1, 0, 1, 2, 5, 6, 8, 9, 1 << 29, 1<<29 + 1, 1 << 30, 1<<30 + 1, 1 << 40, 1<<40 + 1, r.Intn(1 << 30)}[r.Intn(15)]
	switch i := r.Intn(11); i {
	case 7:
		m.Kind = n
	case 8:
		m.Addr = api.Addr(n)
	case 9:
		m.Client = strings.Repeat("x", r.Intn(34))
	case 10:
		m.Ok = !m.Ok
	default:
		*fields()[i].in(&m) = n
	}
	return m
}

func TestAnyMessage(t *testing.T) {
	r := rand.New(rand.NewSource(1))
	right, wrong := 0, 0
	of := map[string]api.Message{}
	for range 50000 {
		m := anyMessage(r)
		for range r.Intn(3) {
			m = changed(r, m)
		}
		if !valid(m) {
			refuse(t, "any", m)
			wrong++
			continue
		}
		accept(t, "any", m)
		right++
		b := string(encoded(t, m))
		if n, is := of[b]; is && n != m {
			t.Fatalf("%+v and %+v have the same encoding", m, n)
		}
		of[b] = m
	}
	if right < 10000 || wrong < 10000 {
		t.Errorf("only %d messages that are valid, and %d that are not", right, wrong)
	}
}

// neighbours are m, and valid messages that differ from it in one field or in their kind alone.
func neighbours(m api.Message) []api.Message {
	l := []api.Message{m}
	add := func(n api.Message) {
		if valid(n) && !slices.Contains(l, n) {
			l = append(l, n)
		}
	}
	for _, f := range fields() {
		n := m
		for _, v := range places(f) {
			*f.in(&n) = v
			add(n)
		}
	}
	n := m
	for n.Kind = range 7 {
		add(n)
	}
	n = m
	for i := range 32 {
		n.Addr = m.Addr ^ 1<<i
		add(n)
	}
	n = m
	for _, n.Client = range []string{"", "\x00", "\x00\x00", "a", "b", "ab", "ba", "a\x00", strings.Repeat("a", 32), strings.Repeat("a", 31) + "b"} {
		add(n)
	}
	n = m
	n.Ok = !n.Ok
	add(n)
	return l
}

func TestNoTwoMessagesHaveTheSameEncoding(t *testing.T) {
	of := map[string]api.Message{}
	count := 0
	for _, m := range ofEachKind() {
		for _, n := range neighbours(m) {
			b := string(encoded(t, n))
			if o, is := of[b]; is && o != n {
				t.Errorf("%+v and %+v have the same encoding", n, o)
			}
			of[b] = n
			count++
		}
	}
	if count < 200 {
		t.Errorf("only %d messages", count)
	}
}

// checkAny fails unless b is decoded as the message that it is the encoding of, or refused; it tells which.
func checkAny(t *testing.T, b []byte) bool {
	t.Helper()
	before := slices.Clone(b)
	m, e := message.Decode(b)
	if !bytes.Equal(b, before) {
		t.Fatalf("Decode changed %v into %v", before, b)
	}
	if e != api.OK {
		if e != api.ErrForm || m != (api.Message{}) {
			t.Fatalf("Decode(%v) = %+v, %d", b, m, e)
		}
		return false
	}
	if c, e := message.Encode(m); !bytes.Equal(b, c) || e != api.OK || !valid(m) || !message.Right(m) {
		t.Fatalf("Decode(%v) = %+v, whose encoding is %v, %d", b, m, c, e)
	}
	return true
}

func TestDecodeOfEveryOtherByte(t *testing.T) {
	for _, m := range ofEachKind() {
		b := encoded(t, m)
		for at := range b {
			for value := range 256 {
				c := slices.Clone(b)
				c[at] = byte(value)
				checkAny(t, c)
			}
		}
	}
}

func TestDecodeOfAnyBytes(t *testing.T) {
	r := rand.New(rand.NewSource(2))
	for range 20000 {
		b := make([]byte, r.Intn(80))
		r.Read(b)
		checkAny(t, b)
		if len(b) > 0 {
			b[0] = byte(r.Intn(7))
			checkAny(t, b)
		}
	}
	right, wrong := 0, 0
	for range 40000 {
		b := encoded(t, anyMessage(r))
		for range 1 + r.Intn(2) {
			b[r.Intn(len(b))] = []byte{0, 1, 2, 5, 6, 8, 9, 32, 33, 255, byte(r.Intn(256))}[r.Intn(11)]
		}
		switch r.Intn(6) {
		case 0:
			b = b[:r.Intn(len(b)+1)]
		case 1:
			b = append(b, make([]byte, r.Intn(20))...)
		}
		if checkAny(t, b) {
			right++
		} else {
			wrong++
		}
	}
	if right < 1000 || wrong < 1000 {
		t.Errorf("only %d bytes that are messages, and %d that are not", right, wrong)
	}
}

func TestGreatArguments(t *testing.T) {
	for kind := range 7 {
		b := make([]byte, 1<<22)
		b[0], b[4], b[12] = byte(kind), 1, 1
		if m, e := message.Decode(b); m != (api.Message{}) || e != api.ErrForm {
			t.Errorf("Decode of many bytes of Kind %d: %d, want nothing, ErrForm", kind, e)
		}
		m := api.Message{Kind: kind, Life: 1, Xid: 1, Client: string(b)}
		if c, e := message.Encode(m); len(c) != 0 || e != api.ErrArg || message.Right(m) {
			t.Errorf("Encode of a long Client of Kind %d: %d bytes, %d, want nothing, ErrArg", kind, len(c), e)
		}
	}
}

func FuzzDecode(f *testing.F) {
	for _, m := range ofEachKind() {
		b, _ := message.Encode(m)
		f.Add(b)
	}
	f.Fuzz(func(t *testing.T, b []byte) { checkAny(t, b) })
}

// R3

func TestDecodeSharesNoMemory(t *testing.T) {
	b := encoded(t, update())
	m, _ := message.Decode(b)
	clear(b)
	if m != update() {
		t.Errorf("what Decode returned changed with its argument: %+v", m)
	}
}

func TestEncodeReturnsNewMemory(t *testing.T) {
	for _, m := range ofEachKind() {
		b, c := encoded(t, m), encoded(t, m)
		clear(b[:cap(b)])
		if !bytes.Equal(c, told(m)) || !bytes.Equal(encoded(t, m), c) {
			t.Errorf("an encoding of %+v changed with another one: %v", m, c)
		}
	}
}
