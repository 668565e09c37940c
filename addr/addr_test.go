package addr_test

import (
	"fmt"
	"math/rand"
	"slices"
	"strings"
	"testing"

	"lessor/addr"
	"lessor/api"
)

const top = api.Addr(1<<32 - 1)

// ranges makes a list of ranges of pairs of addresses.
func ranges(ends ...api.Addr) []api.Range {
	var l []api.Range
	for i := 0; i < len(ends); i += 2 {
		l = append(l, api.Range{Low: ends[i], High: ends[i+1]})
	}
	return l
}

// P1.1

func TestTextAndParseOfKnownAddresses(t *testing.T) {
	for _, c := range []struct {
		a api.Addr
		s string
	}{
		{0, "0.0.0.0"},
		{1, "0.0.0.1"},
		{9, "0.0.0.9"},
		{10, "0.0.0.10"},
		{99, "0.0.0.99"},
		{100, "0.0.0.100"},
		{255, "0.0.0.255"},
		{256, "0.0.1.0"},
		{1<<16 - 1, "0.0.255.255"},
		{1 << 16, "0.1.0.0"},
		{1<<24 - 1, "0.255.255.255"},
		{1 << 24, "1.0.0.0"},
		{0x01020304, "1.2.3.4"},
		{0x7fffffff, "127.255.255.255"},
		{0x80000000, "128.0.0.0"},
		{3232235777, "192.168.1.1"},
		{top - 1, "255.255.255.254"},
		{top, "255.255.255.255"},
	} {
		if s := addr.Text(c.a); s != c.s {
			t.Errorf("Text(%d) = %q, want %q", c.a, s, c.s)
		}
		if a, e := addr.Parse(c.s); a != c.a || e != api.OK {
			t.Errorf("Parse(%q) = %d, %d, want %d, OK", c.s, a, e, c.a)
		}
	}
}

func TestParseRefusesWhatIsNoText(t *testing.T) {
	for _, s := range []string{
		"", ".", "..", "...", "....", "0", "1.2", "1.2.3", "1.2.3.", ".1.2.3", "1..2.3", "1.2..3",
		"1.2.3.4.", ".1.2.3.4", "1.2.3.4.5", "0.1.2.3.4", "0.0.0.0.0", "1.2.3.4.5.6",
		"01.2.3.4", "1.02.3.4", "1.2.003.4", "1.2.3.04", "00.0.0.0", "0.0.0.00", "0000.0.0.0",
		"256.0.0.0", "1.256.3.4", "1.2.256.4", "1.2.3.256", "1.2.3.300", "1.2.3.1000",
		"1.2.3.4294967296", "1.2.3.18446744073709551616", "1.2.3.18446744073709551617", "3232235777",
		"+1.2.3.4", "1.2.3.+4", "-1.2.3.4", "1.2.3.-4", "-0.0.0.0",
		" 1.2.3.4", "1.2.3.4 ", "1. 2.3.4", "1.2.3.4\n", "1.2.3.4\x00", "\x001.2.3.4", "1.2.3.\t4",
		"1.2.3.x", "a.b.c.d", "0x1.2.3.4", "1.2.3.0b1", "1.2.3.1e1", "1_0.2.3.4", "1.2.3.1_0", "ff.1.2.3",
		"1,2,3,4", "1:2:3:4", "1.2.3/4", "1.2.3.4/8", "1.2.3.٤", "１.2.3.4", "1。2。3。4", "1.2.3.\xff",
		strings.Repeat("1", 1000), strings.Repeat(".", 1000), strings.Repeat("1.", 1000) + "1",
	} {
		if a, e := addr.Parse(s); a != 0 || e != api.ErrForm {
			t.Errorf("Parse(%q) = %d, %d, want 0, ErrForm", s, a, e)
		}
	}
}

// Of all short texts of these bytes, those that have an address are written out by a rule of the test's own.
func TestParseOfAllShortTexts(t *testing.T) {
	const bytes = "012.-"
	part := map[string]api.Addr{}
	for n := range api.Addr(256) {
		part[fmt.Sprint(n)] = n
	}
	var walk func(s string)
	walk = func(s string) {
		want, right := api.Addr(0), true
		parts := strings.Split(s, ".")
		for _, p := range parts {
			n, ok := part[p]
			want, right = want*256+n, right && ok
		}
		right = right && len(parts) == 4
		a, e := addr.Parse(s)
		if right && (a != want || e != api.OK) || !right && (a != 0 || e != api.ErrForm) {
			t.Errorf("Parse(%q) = %d, %d, want %d, %v", s, a, e, want, right)
		}
		if len(s) < 8 {
			for i := range len(bytes) {
				walk(s + bytes[i:i+1])
			}
		}
	}
	walk("")
}

// P1.2

func TestPoolOfKnownRanges(t *testing.T) {
	for _, c := range []struct{ in, want []api.Range }{
		{nil, nil},
		{[]api.Range{}, nil},
		{ranges(0, 0), ranges(0, 0)},
		{ranges(top, top), ranges(top, top)},
		{ranges(7, 9), ranges(7, 9)},
		{ranges(5, 7, 1, 4), ranges(1, 7)},
		{ranges(1, 4, 6, 7), ranges(1, 4, 6, 7)},
		{ranges(6, 7, 1, 4), ranges(1, 4, 6, 7)},
		{ranges(1, 4, 5, 5, 6, 7), ranges(1, 7)},
		{ranges(1, 4, 4, 7), ranges(1, 7)},
		{ranges(1, 5, 3, 7), ranges(1, 7)},
		{ranges(1, 9, 3, 4, 6, 7), ranges(1, 9)},
		{ranges(3, 4, 1, 9, 8, 12), ranges(1, 12)},
		{ranges(1, 3, 1, 9, 1, 1), ranges(1, 9)},
		{ranges(2, 2, 2, 2, 2, 2), ranges(2, 2)},
		{ranges(9, 9, 5, 5, 7, 7, 1, 1, 3, 3), ranges(1, 1, 3, 3, 5, 5, 7, 7, 9, 9)},
		{ranges(top, top, 0, 0), ranges(0, 0, top, top)},
		{ranges(0, 3, 0, 0), ranges(0, 3)},
		{ranges(0, 0, 1, 1), ranges(0, 1)},
		{ranges(top, top, top-1, top-1), ranges(top-1, top)},
		{ranges(top-3, top, 0, 3, top-1, top), ranges(0, 3, top-3, top)},
		{ranges(top-3, top, top-5, top-4, top, top), ranges(top-5, top)},
		{ranges(0x7ffffffe, 0x7fffffff, 0x80000000, 0x80000001), ranges(0x7ffffffe, 0x80000001)},
	} {
		if l, e := addr.Pool(c.in); !slices.Equal(l, c.want) || e != api.OK {
			t.Errorf("Pool(%v) = %v, %d, want %v, OK", c.in, l, e, c.want)
		}
	}
}

// singles is n addresses, no two of them adjacent, the greatest first.
func singles(n int) []api.Range {
	var l []api.Range
	for i := range n {
		a := 3 * api.Addr(n-i)
		l = append(l, api.Range{Low: a, High: a})
	}
	return l
}

func TestPoolOf256AddressesAndOneMore(t *testing.T) {
	full := [][]api.Range{
		ranges(0, 255),
		ranges(1000, 1255),
		ranges(top-255, top),
		ranges(0, 127, top-127, top),
		ranges(100, 200, 0, 255, 50, 60),
		ranges(0, 128, 128, 255),
		ranges(0, 200, 100, 255),
		ranges(0, 127, 128, 255),
		singles(256),
		slices.Concat(singles(256), singles(256), singles(100)),
		slices.Repeat(ranges(4, 259), 1000),
	}
	for _, l := range full {
		if p, e := addr.Pool(l); e != api.OK || addr.Count(p) != 256 {
			t.Errorf("Pool(%v) = %v, %d, want 256 addresses, OK", l, p, e)
		}
		more := api.Addr(500)
		if p, e := addr.Pool(append(slices.Clone(l), api.Range{Low: more, High: more})); p != nil || e != api.ErrFull {
			t.Errorf("one more than Pool(%v) = %v, %d, want nil, ErrFull", l, p, e)
		}
	}
}

func TestPoolOfTooManyAddresses(t *testing.T) {
	for _, l := range [][]api.Range{
		ranges(0, 256),
		ranges(top-256, top),
		ranges(0, 127, top-128, top),
		ranges(0, 128, 129, 256),
		ranges(0, 200, 100, 256),
		ranges(0, top),
		ranges(0, top, 0, top),
		ranges(0, 0, 2, top),
		ranges(0, top-1),
		ranges(1, top),
		ranges(0, 0x7fffffff, 0x80000000, top),
		ranges(5, 1<<31+4, 5, 6),
		singles(257),
	} {
		if p, e := addr.Pool(l); len(p) != 0 || e != api.ErrFull {
			t.Errorf("Pool(%v) = %v, %d, want nothing, ErrFull", l, p, e)
		}
	}
}

func TestPoolRefusesHighBelowLow(t *testing.T) {
	for _, l := range [][]api.Range{
		ranges(1, 0),
		ranges(2, 1),
		ranges(top, 0),
		ranges(top, top-1),
		ranges(1, 4, 7, 5),
		ranges(7, 5, 1, 4),
		ranges(1, 9, 7, 5, 3, 3),
	} {
		if p, e := addr.Pool(l); len(p) != 0 || e != api.ErrArg {
			t.Errorf("Pool(%v) = %v, %d, want nothing, ErrArg", l, p, e)
		}
	}
}

func TestPoolNamesErrArgAheadOfErrFull(t *testing.T) {
	for _, l := range [][]api.Range{
		ranges(0, 256, 2, 1),
		ranges(2, 1, 0, 256),
		ranges(0, top, top, 0),
		ranges(0, top, 0, top, 1, 0),
		append(singles(300), api.Range{Low: 1}),
	} {
		if p, e := addr.Pool(l); len(p) != 0 || e != api.ErrArg {
			t.Errorf("Pool(%v) = %v, %d, want nothing, ErrArg", l, p, e)
		}
	}
}

func TestPoolLeavesItsArgumentAlone(t *testing.T) {
	in := ranges(9, 9, 5, 7, 1, 4, 9, 11)
	before := slices.Clone(in)
	p, e := addr.Pool(in)
	if e != api.OK || !slices.Equal(in, before) {
		t.Fatalf("Pool changed %v into %v (%d)", before, in, e)
	}
	same := ranges(1, 4, 9, 11)
	q, _ := addr.Pool(same)
	for i := range p {
		p[i] = api.Range{}
	}
	for i := range q {
		q[i] = api.Range{}
	}
	if !slices.Equal(in, before) || !slices.Equal(same, ranges(1, 4, 9, 11)) {
		t.Errorf("what Pool returned shares memory with its argument: %v, %v", in, same)
	}
}

func TestCountAtAndIndexOfKnownPools(t *testing.T) {
	for _, c := range []struct {
		pool []api.Range
		all  []api.Addr
		out  []api.Addr
	}{
		{nil, nil, []api.Addr{0, 1, top}},
		{[]api.Range{}, nil, []api.Addr{0, 1, top}},
		{ranges(0, 0), []api.Addr{0}, []api.Addr{1, top}},
		{ranges(top, top), []api.Addr{top}, []api.Addr{0, top - 1}},
		{ranges(1, 7), []api.Addr{1, 2, 3, 4, 5, 6, 7}, []api.Addr{0, 8, top}},
		{ranges(1, 2, 4, 4, 9, 10), []api.Addr{1, 2, 4, 9, 10}, []api.Addr{0, 3, 5, 8, 11}},
		{ranges(0, 1, top-1, top), []api.Addr{0, 1, top - 1, top}, []api.Addr{2, top - 2, 1 << 31}},
	} {
		if n := addr.Count(c.pool); n != len(c.all) {
			t.Errorf("Count(%v) = %d, want %d", c.pool, n, len(c.all))
		}
		for i, want := range c.all {
			if a, e := addr.At(c.pool, i); a != want || e != api.OK {
				t.Errorf("At(%v, %d) = %d, %d, want %d, OK", c.pool, i, a, e, want)
			}
			if n := addr.Index(c.pool, want); n != i {
				t.Errorf("Index(%v, %d) = %d, want %d", c.pool, want, n, i)
			}
		}
		for _, n := range []int{-1 << 63, -256, -1, len(c.all), len(c.all) + 1, 256, 257, 1 << 32, 1<<63 - 1} {
			if a, e := addr.At(c.pool, n); a != 0 || e != api.ErrNone {
				t.Errorf("At(%v, %d) = %d, %d, want 0, ErrNone", c.pool, n, a, e)
			}
		}
		for _, a := range c.out {
			if n := addr.Index(c.pool, a); n != -1 {
				t.Errorf("Index(%v, %d) = %d, want -1", c.pool, a, n)
			}
		}
	}
}

func TestFirstAndLastOfFullPools(t *testing.T) {
	single, _ := addr.Pool(singles(256))
	for _, p := range [][]api.Range{ranges(0, 255), ranges(top-255, top), ranges(0, 127, top-127, top), single} {
		first, last := p[0].Low, p[len(p)-1].High
		if n := addr.Count(p); n != 256 {
			t.Errorf("Count(%v) = %d, want 256", p, n)
		}
		if a, e := addr.At(p, 0); a != first || e != api.OK {
			t.Errorf("At(%v, 0) = %d, %d, want %d", p, a, e, first)
		}
		if a, e := addr.At(p, 255); a != last || e != api.OK {
			t.Errorf("At(%v, 255) = %d, %d, want %d", p, a, e, last)
		}
		if a, e := addr.At(p, 256); a != 0 || e != api.ErrNone {
			t.Errorf("At(%v, 256) = %d, %d, want 0, ErrNone", p, a, e)
		}
		if i, j := addr.Index(p, first), addr.Index(p, last); i != 0 || j != 255 {
			t.Errorf("Index(%v) of the first and the last one = %d, %d", p, i, j)
		}
	}
}

// P1.3

func TestTextAndParseAreInverse(t *testing.T) {
	check := func(a api.Addr) {
		if b, e := addr.Parse(addr.Text(a)); b != a || e != api.OK {
			t.Errorf("Parse(Text(%d)) = %d, %d", a, b, e)
		}
	}
	for place := range 4 {
		for n := range api.Addr(256) {
			check(n << (8 * place))
			check(^(n << (8 * place)))
		}
	}
	r := rand.New(rand.NewSource(1))
	for range 20000 {
		check(api.Addr(r.Uint32()))
	}
}

// near is a range of few addresses, at one of several places of all addresses.
func near(r *rand.Rand) api.Range {
	low := r.Intn(60)
	high := min(low+r.Intn(8), 60)
	switch r.Intn(3) {
	case 0:
		return api.Range{Low: api.Addr(low), High: api.Addr(high)}
	case 1:
		return api.Range{Low: top - api.Addr(high), High: top - api.Addr(low)}
	}
	return api.Range{Low: 1<<31 - 30 + api.Addr(low), High: 1<<31 - 30 + api.Addr(high)}
}

// members is all addresses of l, each once, in increasing order.
func members(l []api.Range) []api.Addr {
	var out []api.Addr
	for _, r := range l {
		for i := range int(r.High-r.Low) + 1 {
			out = append(out, r.Low+api.Addr(i))
		}
	}
	slices.Sort(out)
	return slices.Compact(out)
}

func TestPoolsOfManyListsAgainstTheirMembers(t *testing.T) {
	r := rand.New(rand.NewSource(2))
	for range 3000 {
		var l []api.Range
		for range r.Intn(12) {
			l = append(l, near(r))
		}
		p, e := addr.Pool(l)
		if e != api.OK {
			t.Fatalf("Pool(%v): %d", l, e)
		}
		for i, x := range p {
			if x.High < x.Low || i > 0 && x.Low-1 <= p[i-1].High {
				t.Fatalf("Pool(%v) = %v, which is no pool", l, p)
			}
		}
		all := members(l)
		if !slices.Equal(members(p), all) || addr.Count(p) != len(all) {
			t.Fatalf("Pool(%v) = %v, of %d addresses, has not the same addresses", l, p, addr.Count(p))
		}
		for i, a := range all {
			if b, e := addr.At(p, i); b != a || e != api.OK || addr.Index(p, a) != i {
				t.Fatalf("At(%v, %d) = %d, %d; Index of %d is %d", p, i, b, e, a, addr.Index(p, a))
			}
		}
		for a := range api.Addr(70) {
			for _, b := range []api.Addr{a, top - a, 1<<31 - 35 + a} {
				want, found := slices.BinarySearch(all, b)
				if !found {
					want = -1
				}
				if n := addr.Index(p, b); n != want {
					t.Fatalf("Index(%v, %d) = %d, want %d", p, b, n, want)
				}
			}
		}
	}
}

func TestOrderAndRepetitionOfRangesDoNotMatter(t *testing.T) {
	r := rand.New(rand.NewSource(3))
	for range 2000 {
		var l []api.Range
		for range 1 + r.Intn(10) {
			l = append(l, near(r))
		}
		want, _ := addr.Pool(l)
		again := slices.Clone(l)
		for range r.Intn(5) {
			again = append(again, l[r.Intn(len(l))])
		}
		r.Shuffle(len(again), func(i, j int) { again[i], again[j] = again[j], again[i] })
		if p, e := addr.Pool(again); !slices.Equal(p, want) || e != api.OK {
			t.Fatalf("Pool(%v) = %v, %d, but Pool(%v) = %v", again, p, e, l, want)
		}
		if p, e := addr.Pool(want); !slices.Equal(p, want) || e != api.OK {
			t.Fatalf("Pool of the pool %v = %v, %d", want, p, e)
		}
	}
}

// P1: lists that are no pools have no specified answers, but the calls end.

func TestCallsEndForListsThatAreNoPools(t *testing.T) {
	wide := slices.Repeat(ranges(0, top), 1000)
	for _, l := range [][]api.Range{
		ranges(0, top),
		wide,
		ranges(top, 0),
		ranges(5, 4, top, top-1),
		ranges(5, 7, 5, 7, 1, 4),
		slices.Repeat(ranges(top, 0), 1000),
		append(slices.Repeat(ranges(1, 0), 1000), wide...),
	} {
		addr.Count(l)
		for _, n := range []int{-1 << 63, -1, 0, 255, 256, 257, 1<<32 - 1, 1 << 32, 1<<63 - 1} {
			addr.At(l, n)
		}
		for _, a := range []api.Addr{0, 1, 1 << 31, top - 1, top} {
			addr.Index(l, a)
		}
	}
}

func TestPoolOfALongList(t *testing.T) {
	r := rand.New(rand.NewSource(4))
	var l []api.Range
	for range 200000 {
		a := api.Addr(r.Intn(256))
		l = append(l, api.Range{Low: a, High: a})
	}
	if p, e := addr.Pool(l); e != api.OK || !slices.Equal(p, ranges(0, 255)) {
		t.Errorf("Pool of a long list = %v, %d", p, e)
	}
}
