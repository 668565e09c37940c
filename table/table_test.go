package table_test

import (
	"math"
	"math/rand"
	"slices"
	"sort"
	"strings"
	"testing"

	"lessor/api"
	"lessor/table"
)

// most is the last moment.
const most = 1 << 40

// top is the last address.
const top = 1<<32 - 1

// model is what a table has to know, by the chapter's words: leases by increasing addresses.
type model []api.Lease

// fresh is the model of a new table that has these addresses, which are increasing.
func fresh(addrs ...api.Addr) model {
	var m model
	for _, a := range addrs {
		m = append(m, api.Lease{Addr: a})
	}
	return m
}

// span is the addresses from one to another one.
func span(low, high uint64) []api.Addr {
	var l []api.Addr
	for a := low; a <= high; a++ {
		l = append(l, api.Addr(a))
	}
	return l
}

// place is where a is in m, or -1.
func (m model) place(a api.Addr) int {
	return slices.IndexFunc(m, func(l api.Lease) bool { return l.Addr == a })
}

// set is what Set has to answer; it changes m.
func (m model) set(l api.Lease) api.Errno {
	if !valid(l) {
		return api.ErrArg
	}
	i := m.place(l.Addr)
	if i < 0 {
		return api.ErrNone
	}
	m[i] = l
	return api.OK
}

// of is what Of has to answer.
func (m model) of(client string) []api.Lease {
	var out []api.Lease
	for _, l := range m {
		if (l.Bind == api.Active || l.Bind == api.Expired || l.Bind == api.Released) && l.Client == client {
			out = append(out, l)
		}
	}
	return out
}

// due is what Due has to answer.
func (m model) due(now int) []api.Lease {
	var out []api.Lease
	for _, l := range m {
		if l.Bind == api.Active && l.Until <= now {
			out = append(out, l)
		}
	}
	// The order of addresses, in which they are here, stays where Until is equal.
	sort.SliceStable(out, func(i, j int) bool { return out[i].Until < out[j].Until })
	return out
}

// bound is what Count and First have to answer.
func (m model) bound(bind int) (count int, first api.Addr, is bool) {
	for _, l := range slices.Backward(m) {
		if l.Bind == bind {
			count, first, is = count+1, l.Addr, true
		}
	}
	return count, first, is
}

// valid is whether l is valid, by the words of the lease's chapter.
func valid(l api.Lease) bool {
	for _, n := range []int{l.Until, l.Acked, l.Told, l.At, l.Ver} {
		if n < 0 || n > most {
			return false
		}
	}
	switch l.Bind {
	case 2, 3, 4:
		return len(l.Client) >= 1 && len(l.Client) <= 32
	case 0, 1, 5:
		return l == api.Lease{Addr: l.Addr, Bind: l.Bind, Ver: l.Ver}
	}
	return false
}

// made is the table of the pool; it fails unless there is one.
func made(t *testing.T, pool ...api.Range) *table.Table {
	t.Helper()
	x, e := table.New(pool)
	if x == nil || e != api.OK {
		t.Fatalf("New(%v) = %v, %d, want a table, OK", pool, x, e)
	}
	return x
}

// refused fails unless there is no table of the pool, for this reason.
func refused(t *testing.T, what string, want api.Errno, pool ...api.Range) {
	t.Helper()
	if x, e := table.New(pool); x != nil || e != want {
		t.Errorf("%s: New(%v) = %v, %d, want nil, %d", what, pool, x, e, want)
	}
}

// put sets l in x, and in m, and fails unless x takes it.
func put(t *testing.T, x *table.Table, m model, l api.Lease) {
	t.Helper()
	if e := x.Set(l); e != api.OK {
		t.Errorf("Set(%+v) = %d, want OK", l, e)
	}
	if e := m.set(l); e != api.OK {
		t.Fatalf("the model answers %d to %+v", e, l)
	}
}

// binds are all Binds, and numbers that are none.
func binds() []int {
	return []int{math.MinInt, -256, -1, 0, 1, 2, 3, 4, 5, 6, 7, 256, 258, 1<<32 + 2, math.MaxInt}
}

// clients are the names that the tests use, and some that they don't.
func clients() []string {
	return []string{
		"", "a", "b", "ab", "A", "\x00", "a\x00", "\xff", "nobody", strings.Repeat("x", 31), strings.Repeat("x", 32),
		strings.Repeat("x", 33), strings.Repeat("x", 1000),
	}
}

// agree fails unless x answers every query as m has it.
func agree(t *testing.T, what string, x *table.Table, m model) {
	t.Helper()
	if l := x.All(); !slices.Equal(l, m) {
		t.Errorf("%s: All() = %+v, want %+v", what, l, m)
	}
	agreeOfAddresses(t, what, x, m)
	agreeOfBinds(t, what, x, m)
	for _, name := range clients() {
		if l, want := x.Of(name), m.of(name); !slices.Equal(l, want) {
			t.Errorf("%s: Of(%q) = %+v, want %+v", what, name, l, want)
		}
	}
	moments := []int{math.MinInt, math.MinInt + 1, -1, 0, 1, most - 1, most, most + 1, math.MaxInt - 1, math.MaxInt}
	for _, l := range m {
		moments = append(moments, l.Until-1, l.Until, l.Until+1, l.Told, l.At, l.Acked)
	}
	slices.Sort(moments)
	for _, now := range slices.Compact(moments) {
		if l, want := x.Due(now), m.due(now); !slices.Equal(l, want) {
			t.Errorf("%s: Due(%d) = %+v, want %+v", what, now, l, want)
		}
	}
}

// agreeOfAddresses fails unless Get answers as m has it, for addresses of the
// table, for those beside them, and for those far off.
func agreeOfAddresses(t *testing.T, what string, x *table.Table, m model) {
	t.Helper()
	addrs := []api.Addr{0, 1, 1 << 31, top - 1, top}
	for _, l := range m {
		addrs = append(addrs, l.Addr-1, l.Addr, l.Addr+1, l.Addr^1<<31)
	}
	for _, a := range addrs {
		want, wantE := api.Lease{}, api.ErrNone
		if i := m.place(a); i >= 0 {
			want, wantE = m[i], api.OK
		}
		if l, e := x.Get(a); l != want || e != wantE {
			t.Errorf("%s: Get(%d) = %+v, %d, want %+v, %d", what, a, l, e, want, wantE)
		}
	}
}

// agreeOfBinds fails unless Count and First answer as m has it, and each address
// is counted once.
func agreeOfBinds(t *testing.T, what string, x *table.Table, m model) {
	t.Helper()
	sum := 0
	for _, bind := range binds() {
		count, first, is := m.bound(bind)
		if n := x.Count(bind); n != count {
			t.Errorf("%s: Count(%d) = %d, want %d", what, bind, n, count)
		}
		if a, found := x.First(bind); a != first || found != is {
			t.Errorf("%s: First(%d) = %d, %t, want %d, %t", what, bind, a, found, first, is)
		}
		sum += x.Count(bind)
	}
	if sum != len(m) {
		t.Errorf("%s: %d addresses are counted, want %d", what, sum, len(m))
	}
}

// ofBind is a lease of a with this Bind, which is valid.
func ofBind(a api.Addr, bind int) api.Lease {
	if bind == api.Active || bind == api.Expired || bind == api.Released {
		return api.Lease{Addr: a, Bind: bind, Client: "a", Until: 10 + bind, Acked: 20, Told: 30, At: 5, Ver: 7}
	}
	return api.Lease{Addr: a, Bind: bind, Ver: 8}
}

// active is an address that a client has.
func active(a api.Addr, client string, until int) api.Lease {
	return api.Lease{Addr: a, Bind: api.Active, Client: client, Until: until}
}

// wrong is leases of a that are not valid, one for each reason.
func wrong(a api.Addr) []api.Lease {
	return []api.Lease{
		{Addr: a, Bind: -1}, {Addr: a, Bind: 6}, {Addr: a, Bind: math.MinInt}, {Addr: a, Bind: math.MaxInt},
		{Addr: a, Client: "a"}, {Addr: a, Until: 1}, {Addr: a, Acked: 1}, {Addr: a, Told: 1}, {Addr: a, At: 1},
		{Addr: a, Ver: -1}, {Addr: a, Ver: most + 1}, {Addr: a, Bind: 1, Client: "a"}, {Addr: a, Bind: 1, Until: 1},
		{Addr: a, Bind: 5, Client: "a"}, {Addr: a, Bind: 5, At: 1},
		{Addr: a, Bind: 2}, {Addr: a, Bind: 3}, {Addr: a, Bind: 4},
		{Addr: a, Bind: 2, Client: strings.Repeat("x", 33)}, {Addr: a, Bind: 4, Client: strings.Repeat("x", 33)},
		{Addr: a, Bind: 2, Client: "a", Until: -1}, {Addr: a, Bind: 2, Client: "a", Until: most + 1},
		{Addr: a, Bind: 3, Client: "a", Told: math.MinInt}, {Addr: a, Bind: 4, Client: "a", At: math.MaxInt},
		{Addr: a, Bind: 2, Client: "a", Acked: -1}, {Addr: a, Bind: 6, Client: strings.Repeat("x", 33), Until: -1, Ver: -1},
	}
}

// P12.1: New

func TestNew(t *testing.T) {
	for _, c := range []struct {
		what string
		pool []api.Range
		want []api.Addr
	}{
		{"nil", nil, nil},
		{"empty", []api.Range{}, nil},
		{"one address", []api.Range{{Low: 9, High: 9}}, []api.Addr{9}},
		{"the example", []api.Range{{Low: 1, High: 3}}, []api.Addr{1, 2, 3}},
		{"the address 0", []api.Range{{}}, []api.Addr{0}},
		{"the last address", []api.Range{{Low: top, High: top}}, []api.Addr{top}},
		{"both ends", []api.Range{{Low: top - 1, High: top}, {Low: 0, High: 1}}, []api.Addr{0, 1, top - 1, top}},
		{"in no order", []api.Range{{Low: 7, High: 8}, {Low: 1, High: 1}, {Low: 4, High: 5}}, []api.Addr{1, 4, 5, 7, 8}},
		{"touching", []api.Range{{Low: 3, High: 4}, {Low: 1, High: 2}}, []api.Addr{1, 2, 3, 4}},
		{"overlapping", []api.Range{{Low: 2, High: 5}, {Low: 1, High: 3}}, []api.Addr{1, 2, 3, 4, 5}},
		{"one in another one", []api.Range{{Low: 1, High: 5}, {Low: 2, High: 3}}, []api.Addr{1, 2, 3, 4, 5}},
		{"repeated", []api.Range{{Low: 1, High: 2}, {Low: 1, High: 2}, {Low: 1, High: 2}}, []api.Addr{1, 2}},
		{"256 addresses", []api.Range{{Low: 1000, High: 1255}}, span(1000, 1255)},
		{"the first 256", []api.Range{{Low: 0, High: 255}}, span(0, 255)},
		{"the last 256", []api.Range{{Low: top - 255, High: top}}, span(top-255, top)},
		{"256 in two ranges", []api.Range{{Low: 500, High: 627}, {Low: 1, High: 128}}, append(span(1, 128), span(500, 627)...)},
		{"256, some of them twice", []api.Range{{Low: 1, High: 200}, {Low: 100, High: 256}}, span(1, 256)},
	} {
		agree(t, c.what, made(t, c.pool...), fresh(c.want...))
	}
}

func TestNewOfSingleAddresses(t *testing.T) {
	var pool []api.Range
	var want []api.Addr
	for n := range 256 {
		a := api.Addr(n) << 24
		pool = append(pool, api.Range{Low: a, High: a})
		want = append(want, a)
	}
	slices.Reverse(pool)
	agree(t, "256 ranges of one address", made(t, pool...), fresh(want...))
	refused(t, "257 ranges of one address", api.ErrFull, append(pool, api.Range{Low: 7, High: 7})...)
}

func TestNewRefuses(t *testing.T) {
	refused(t, "257 addresses", api.ErrFull, api.Range{Low: 0, High: 256})
	refused(t, "the last 257", api.ErrFull, api.Range{Low: top - 256, High: top})
	refused(t, "all addresses", api.ErrFull, api.Range{Low: 0, High: top})
	refused(t, "all addresses, twice", api.ErrFull, api.Range{Low: 0, High: top}, api.Range{Low: 0, High: top})
	refused(t, "257 in two ranges", api.ErrFull, api.Range{Low: 500, High: 628}, api.Range{Low: 1, High: 128})
	refused(t, "Low above High", api.ErrArg, api.Range{Low: 2, High: 1})
	refused(t, "Low far above High", api.ErrArg, api.Range{Low: top, High: 0})
	refused(t, "Low above High in one of several", api.ErrArg, api.Range{Low: 1, High: 2}, api.Range{Low: 6, High: 5}, api.Range{Low: 9, High: 9})
	refused(t, "Low above High, and too many", api.ErrArg, api.Range{Low: 0, High: top}, api.Range{Low: 6, High: 5})
	refused(t, "too many, and Low above High", api.ErrArg, api.Range{Low: 6, High: 5}, api.Range{Low: 0, High: 256})
}

func TestNewLeavesThePool(t *testing.T) {
	pool := []api.Range{{Low: 7, High: 8}, {Low: 1, High: 3}, {Low: 2, High: 4}}
	same := slices.Clone(pool)
	x := made(t, pool...)
	if !slices.Equal(pool, same) {
		t.Errorf("New made the pool %v", pool)
	}
	for i := range pool {
		pool[i] = api.Range{Low: 50, High: 60}
	}
	agree(t, "the pool is changed behind New", x, fresh(1, 2, 3, 4, 7, 8))
}

// P12.1: Set and Get

func TestSetAndGet(t *testing.T) {
	x, m := made(t, api.Range{Low: 1, High: 3}), fresh(1, 2, 3)
	for _, l := range []api.Lease{
		{Addr: 2, Bind: api.Backup},
		{Addr: 1, Bind: api.Active, Client: "a", Until: 9, Acked: 8, Told: 7, At: 6, Ver: 5},
		{Addr: 3, Bind: api.Released, Client: strings.Repeat("x", 32), Until: most, Acked: most, Told: most, At: most, Ver: most},
		{Addr: 2, Bind: api.Abandoned, Ver: most},
		{Addr: 1, Bind: api.Expired, Client: "\x00"},
		{Addr: 1, Ver: 3},
		{Addr: 3},
	} {
		put(t, x, m, l)
		if got, e := x.Get(l.Addr); got != l || e != api.OK {
			t.Errorf("Get(%d) = %+v, %d, want %+v, OK", l.Addr, got, e, l)
		}
		agree(t, "Set", x, m)
	}
}

func TestSetAtTheEndsOfAddresses(t *testing.T) {
	x, m := made(t, api.Range{Low: 0, High: 1}, api.Range{Low: top - 1, High: top}), fresh(0, 1, top-1, top)
	for bind := range 6 {
		put(t, x, m, ofBind(0, bind))
		put(t, x, m, ofBind(top, 5-bind))
		agree(t, "both ends", x, m)
	}
}

func TestSetTwiceWithEachBind(t *testing.T) {
	for one := range 6 {
		for other := range 6 {
			x, m := made(t, api.Range{Low: 1, High: 3}), fresh(1, 2, 3)
			put(t, x, m, ofBind(2, one))
			agree(t, "Set once", x, m)
			put(t, x, m, ofBind(2, other))
			agree(t, "Set twice", x, m)
			if n := x.Count(one); one != other && one != api.Free && n != 0 {
				t.Errorf("Set of %d, then of %d: Count(%d) = %d", one, other, one, n)
			}
			put(t, x, m, ofBind(2, other))
			agree(t, "Set of the same", x, m)
			put(t, x, m, ofBind(2, one))
			agree(t, "Set as it was", x, m)
		}
	}
}

func TestSetRefuses(t *testing.T) {
	x, m := made(t, api.Range{Low: 3, High: 5}, api.Range{Low: 8, High: 9}), fresh(3, 4, 5, 8, 9)
	put(t, x, m, ofBind(3, api.Active))
	put(t, x, m, ofBind(8, api.Backup))
	for _, l := range slices.Concat(wrong(3), wrong(4), wrong(8)) {
		if e := x.Set(l); e != api.ErrArg {
			t.Errorf("Set(%+v) = %d, want ErrArg", l, e)
		}
	}
	agree(t, "leases that are not valid", x, m)
	for _, a := range []api.Addr{0, 1, 2, 6, 7, 10, 11, 1 << 31, 1<<31 + 3, top - 1, top} {
		for bind := range 6 {
			if e := x.Set(ofBind(a, bind)); e != api.ErrNone {
				t.Errorf("Set(%+v) = %d, want ErrNone", ofBind(a, bind), e)
			}
		}
		for _, l := range wrong(a) {
			if e := x.Set(l); e != api.ErrArg {
				t.Errorf("Set(%+v), which is not there either, = %d, want ErrArg", l, e)
			}
		}
	}
	agree(t, "addresses that are not there", x, m)
}

func TestGetRefuses(t *testing.T) {
	x := made(t, api.Range{Low: 3, High: 5}, api.Range{Low: 8, High: 9})
	for a := range api.Addr(20) {
		l, e := x.Get(a)
		switch a {
		case 3, 4, 5, 8, 9:
			if l != (api.Lease{Addr: a}) || e != api.OK {
				t.Errorf("Get(%d) = %+v, %d, want it Free, OK", a, l, e)
			}
		default:
			if l != (api.Lease{}) || e != api.ErrNone {
				t.Errorf("Get(%d) = %+v, %d, want nothing, ErrNone", a, l, e)
			}
		}
	}
}

func TestTableOfNothing(t *testing.T) {
	for _, pool := range [][]api.Range{nil, {}} {
		x := made(t, pool...)
		if e := x.Set(api.Lease{}); e != api.ErrNone {
			t.Errorf("Set = %d, want ErrNone", e)
		}
		if e := x.Set(api.Lease{Bind: 6}); e != api.ErrArg {
			t.Errorf("Set = %d, want ErrArg", e)
		}
		agree(t, "no address", x, nil)
	}
}

// P12.2: All

func TestAllInOrder(t *testing.T) {
	r := rand.New(rand.NewSource(1))
	for range 50 {
		x, m := made(t, api.Range{Low: 250, High: 260}, api.Range{Low: top, High: top}, api.Range{}), fresh(append(append([]api.Addr{0}, span(250, 260)...), top)...)
		for _, i := range r.Perm(len(m)) {
			put(t, x, m, ofBind(m[i].Addr, r.Intn(6)))
		}
		for range 20 {
			if l := x.All(); !slices.Equal(l, m) {
				t.Fatalf("All() = %+v, want %+v", l, m)
			}
		}
	}
}

// P12.2: Of

func TestOf(t *testing.T) {
	x, m := made(t, api.Range{Low: 1, High: 12}), fresh(span(1, 12)...)
	for _, l := range []api.Lease{
		{Addr: 11, Bind: api.Active, Client: "a", Until: 1},
		{Addr: 3, Bind: api.Released, Client: "a", Until: 9, At: 3},
		{Addr: 7, Bind: api.Expired, Client: "a", Until: 5},
		{Addr: 1, Bind: api.Active, Client: "b"},
		{Addr: 2, Bind: api.Active, Client: "ab"},
		{Addr: 4, Bind: api.Expired, Client: "A"},
		{Addr: 5, Bind: api.Released, Client: "a\x00"},
		{Addr: 6, Bind: api.Active, Client: strings.Repeat("x", 32)},
		{Addr: 8, Bind: api.Active, Client: strings.Repeat("x", 31)},
		{Addr: 9, Bind: api.Backup},
		{Addr: 10, Bind: api.Abandoned},
	} {
		put(t, x, m, l)
	}
	agree(t, "Of", x, m)
	for _, c := range []struct {
		client string
		want   []api.Addr
	}{
		{"a", []api.Addr{3, 7, 11}}, {"b", []api.Addr{1}}, {"ab", []api.Addr{2}}, {"A", []api.Addr{4}},
		{"a\x00", []api.Addr{5}}, {strings.Repeat("x", 32), []api.Addr{6}}, {strings.Repeat("x", 31), []api.Addr{8}},
		{"", nil}, {"c", nil}, {"\x00", nil}, {strings.Repeat("x", 33), nil}, {strings.Repeat("a", 100000), nil},
	} {
		var got []api.Addr
		for _, l := range x.Of(c.client) {
			got = append(got, l.Addr)
			if l.Client != c.client {
				t.Errorf("Of(%q) has %+v", c.client, l)
			}
		}
		if !slices.Equal(got, c.want) {
			t.Errorf("Of(%.40q) has %v, want %v", c.client, got, c.want)
		}
	}
}

func TestOfWithEachBind(t *testing.T) {
	x, m := made(t, api.Range{Low: 1, High: 2}), fresh(1, 2)
	for bind := range 6 {
		put(t, x, m, ofBind(1, bind))
		if n, want := len(x.Of("a")), len(m.of("a")); n != want || (want == 1) != (bind == 2 || bind == 3 || bind == 4) {
			t.Errorf("Of a client whose address has the Bind %d has %d leases, want %d", bind, n, want)
		}
		if l := x.Of(""); len(l) != 0 {
			t.Errorf("Of(\"\") = %+v", l)
		}
	}
}

func TestOfWhenTheClientGoes(t *testing.T) {
	x, m := made(t, api.Range{Low: 1, High: 3}), fresh(1, 2, 3)
	put(t, x, m, active(2, "a", 9))
	put(t, x, m, active(1, "a", 8))
	agree(t, "two addresses", x, m)
	put(t, x, m, active(2, "b", 9))
	agree(t, "one of them is another client's", x, m)
	put(t, x, m, api.Lease{Addr: 1, Bind: api.Free, Ver: 1})
	agree(t, "the other one is Free", x, m)
}

// P12.2: Due

func TestDue(t *testing.T) {
	x, m := made(t, api.Range{Low: 1, High: 9}), fresh(span(1, 9)...)
	for _, l := range []api.Lease{
		active(9, "a", 5), active(2, "b", 7), active(5, "c", 5), active(1, "d", 6), active(8, "e", 0), active(3, "f", most),
		{Addr: 4, Bind: api.Expired, Client: "g", Until: 5}, {Addr: 6, Bind: api.Released, Client: "h", Until: 5}, {Addr: 7, Bind: api.Backup},
	} {
		put(t, x, m, l)
	}
	agree(t, "Due", x, m)
	for _, c := range []struct {
		now  int
		want []api.Addr
	}{
		{math.MinInt, nil}, {-1, nil}, {0, []api.Addr{8}}, {4, []api.Addr{8}}, {5, []api.Addr{8, 5, 9}}, {6, []api.Addr{8, 5, 9, 1}},
		{7, []api.Addr{8, 5, 9, 1, 2}}, {8, []api.Addr{8, 5, 9, 1, 2}}, {most - 1, []api.Addr{8, 5, 9, 1, 2}},
		{most, []api.Addr{8, 5, 9, 1, 2, 3}}, {most + 1, []api.Addr{8, 5, 9, 1, 2, 3}}, {math.MaxInt, []api.Addr{8, 5, 9, 1, 2, 3}},
	} {
		var got []api.Addr
		for _, l := range x.Due(c.now) {
			got = append(got, l.Addr)
		}
		if !slices.Equal(got, c.want) {
			t.Errorf("Due(%d) has %v, want %v", c.now, got, c.want)
		}
	}
}

func TestDueAroundTheMoment(t *testing.T) {
	for _, until := range []int{0, 1, 2, 1 << 31, 1<<32 - 1, 1 << 32, most - 1, most} {
		x := made(t, api.Range{Low: 7, High: 7})
		l := api.Lease{Addr: 7, Bind: api.Active, Client: "a", Until: until, Acked: most, Told: most, At: most}
		if e := x.Set(l); e != api.OK {
			t.Fatalf("Set(%+v) = %d", l, e)
		}
		if d := x.Due(until - 1); len(d) != 0 {
			t.Errorf("Due(%d) = %+v, before it is so late", until-1, d)
		}
		for _, now := range []int{until, until + 1, math.MaxInt} {
			if d := x.Due(now); !slices.Equal(d, []api.Lease{l}) {
				t.Errorf("Due(%d) = %+v, want %+v", now, d, l)
			}
		}
	}
}

func TestDueGoesByUntilAlone(t *testing.T) {
	x, m := made(t, api.Range{Low: 1, High: 3}), fresh(1, 2, 3)
	put(t, x, m, api.Lease{Addr: 1, Bind: api.Active, Client: "a", Until: 9})
	put(t, x, m, api.Lease{Addr: 2, Bind: api.Active, Client: "a", Until: 8, Told: 20, Acked: 30, At: 40, Ver: 50})
	put(t, x, m, api.Lease{Addr: 3, Bind: api.Active, Client: "a", Until: 7, Told: 60, Acked: 1})
	agree(t, "times beside Until", x, m)
	if d := x.Due(7); len(d) != 1 || d[0].Addr != 3 {
		t.Errorf("Due(7) = %+v, want the lease of 3", d)
	}
}

func TestDueOfOneUntil(t *testing.T) {
	pool := api.Range{Low: top - 255, High: top}
	x, m := made(t, pool), fresh(span(top-255, top)...)
	for _, i := range rand.New(rand.NewSource(2)).Perm(256) {
		put(t, x, m, active(m[i].Addr, "a", 100+i%2))
	}
	if d := x.Due(100); len(d) != 128 {
		t.Errorf("Due(100) has %d leases, want 128", len(d))
	}
	agree(t, "each Until 128 times", x, m)
}

// P12.2: Count and First

func TestCountAndFirst(t *testing.T) {
	x, m := made(t, api.Range{Low: 1, High: 10}), fresh(span(1, 10)...)
	for _, bind := range binds() {
		want, first := 0, api.Addr(0)
		if bind == api.Free {
			want, first = 10, 1
		}
		if a, is := x.First(bind); x.Count(bind) != want || a != first || is != (want > 0) {
			t.Errorf("of a new table: Count(%d), First(%d) = %d, %d, %t", bind, bind, x.Count(bind), a, is)
		}
	}
	for bind := 1; bind < 6; bind++ {
		for n, a := range []api.Addr{8, 4, 6, 10, 2} {
			put(t, x, m, ofBind(a, bind))
			least := slices.Min([]api.Addr{8, 4, 6, 10, 2}[:n+1])
			if f, is := x.First(bind); x.Count(bind) != n+1 || f != least || !is {
				t.Errorf("Count(%d), First(%d) = %d, %d, %t, want %d, %d, true", bind, bind, x.Count(bind), f, is, n+1, least)
			}
			agree(t, "Count and First", x, m)
		}
	}
}

func TestFirstOfAddress0(t *testing.T) {
	x, m := made(t, api.Range{Low: 0, High: 2}), fresh(0, 1, 2)
	put(t, x, m, ofBind(0, api.Backup))
	if a, is := x.First(api.Backup); a != 0 || !is {
		t.Errorf("First(Backup) = %d, %t, want 0, true", a, is)
	}
	put(t, x, m, ofBind(1, api.Backup))
	put(t, x, m, ofBind(0, api.Free))
	if a, is := x.First(api.Backup); a != 1 || !is {
		t.Errorf("First(Backup) = %d, %t, want 1, true", a, is)
	}
	put(t, x, m, ofBind(1, api.Free))
	if a, is := x.First(api.Backup); a != 0 || is {
		t.Errorf("First(Backup) = %d, %t, want 0, false", a, is)
	}
}

func TestTheExample(t *testing.T) {
	x := made(t, api.Range{Low: 1, High: 3})
	if n := x.Count(api.Free); n != 3 {
		t.Errorf("Count(Free) = %d, want 3", n)
	}
	if e := x.Set(api.Lease{Addr: 2, Bind: api.Backup}); e != api.OK {
		t.Errorf("Set = %d, want OK", e)
	}
	if a, is := x.First(api.Backup); a != 2 || !is {
		t.Errorf("First(Backup) = %d, %t, want 2, true", a, is)
	}
}

// P12.3: what was set last counts, and nothing else is changed

func TestSetChangesOneAddress(t *testing.T) {
	x, m := made(t, api.Range{Low: 0, High: 127}, api.Range{Low: top - 127, High: top}), fresh(append(span(0, 127), span(top-127, top)...)...)
	r := rand.New(rand.NewSource(3))
	for range 1000 {
		l := ofBind(m[r.Intn(256)].Addr, r.Intn(6))
		l.Ver = r.Intn(100)
		put(t, x, m, l)
		if all := x.All(); !slices.Equal(all, m) {
			t.Fatalf("behind Set(%+v): All() = %+v, want %+v", l, all, m)
		}
	}
	agree(t, "256 addresses", x, m)
}

// some is a lease of which something may be wrong.
func some(r *rand.Rand) api.Lease {
	a := api.Addr(r.Intn(16))
	if r.Intn(20) == 0 {
		a = api.Addr(r.Uint32() & (1<<31 | 15))
	}
	l := ofBind(a, r.Intn(6))
	if l.Client != "" {
		l.Client = clients()[r.Intn(12)]
		l.Until, l.Acked, l.Told, l.At = r.Intn(8), r.Intn(8), r.Intn(8), r.Intn(8)
	}
	l.Ver = r.Intn(5)
	if r.Intn(10) == 0 {
		bad := wrong(a)
		l = bad[r.Intn(len(bad))]
	}
	return l
}

func TestRandomCalls(t *testing.T) {
	r := rand.New(rand.NewSource(4))
	for range 60 {
		x, m := made(t, api.Range{Low: 10, High: 13}, api.Range{Low: 2, High: 5}, api.Range{Low: 4, High: 7}), fresh(2, 3, 4, 5, 6, 7, 10, 11, 12, 13)
		for range 40 {
			l := some(r)
			want := m.set(l)
			if e := x.Set(l); e != want {
				t.Fatalf("Set(%+v) = %d, want %d", l, e, want)
			}
			agree(t, "random calls", x, m)
		}
	}
}

func TestRandomPools(t *testing.T) {
	r := rand.New(rand.NewSource(5))
	for range 300 {
		var pool []api.Range
		is := map[api.Addr]bool{}
		for range r.Intn(5) {
			low := uint64(r.Intn(400))
			high := low + uint64(r.Intn(90))
			pool = append(pool, api.Range{Low: api.Addr(low), High: api.Addr(high)})
			for _, a := range span(low, high) {
				is[a] = true
			}
		}
		var want []api.Addr
		for _, a := range span(0, 600) {
			if is[a] {
				want = append(want, a)
			}
		}
		if len(want) > 256 {
			refused(t, "a random pool", api.ErrFull, pool...)
		} else if x := made(t, pool...); !slices.Equal(x.All(), fresh(want...)) {
			t.Errorf("New(%v) has %+v, want %v", pool, x.All(), want)
		}
	}
}

// Queries change nothing, and depend on nothing but what was set.

func TestQueriesChangeNothing(t *testing.T) {
	x, m := made(t, api.Range{Low: 1, High: 20}), fresh(span(1, 20)...)
	for i := range m {
		put(t, x, m, ofBind(m[i].Addr, i%6))
	}
	for range 30 {
		agree(t, "asked again", x, m)
	}
}

// R3: answers belong to the caller, and tables share nothing

func TestAnswersAreTheCallers(t *testing.T) {
	x, m := made(t, api.Range{Low: 1, High: 6}), fresh(span(1, 6)...)
	for i := range m {
		put(t, x, m, active(m[i].Addr, "a", 9-i))
	}
	answers := func() [][]api.Lease { return [][]api.Lease{x.All(), x.Of("a"), x.Due(9)} }
	before := answers()
	for i, l := range answers() {
		l = l[:cap(l)]
		for j := range l {
			l[j] = api.Lease{Addr: 99, Bind: api.Backup, Ver: i}
		}
		_ = append(l[:0], api.Lease{Addr: 98}, api.Lease{Addr: 97})
	}
	agree(t, "the answers are changed", x, m)
	for i, l := range answers() {
		if !slices.Equal(l, before[i]) {
			t.Errorf("the answer %d was %+v, and is %+v", i, before[i], l)
		}
	}
	for i := range m {
		put(t, x, m, ofBind(m[i].Addr, api.Backup))
	}
	if !slices.Equal(before[1], before[0]) || len(before[2]) != 6 || before[2][0].Until != 4 {
		t.Errorf("Set changed what was answered before it: %+v", before)
	}
}

func TestTablesShareNothing(t *testing.T) {
	pool := []api.Range{{Low: 1, High: 5}}
	x, y := made(t, pool...), made(t, pool...)
	m, n := fresh(span(1, 5)...), fresh(span(1, 5)...)
	put(t, x, m, ofBind(2, api.Active))
	agree(t, "the one that was set", x, m)
	agree(t, "the one that wasn't", y, n)
	put(t, y, n, ofBind(3, api.Backup))
	put(t, y, n, ofBind(2, api.Released))
	agree(t, "the first one", x, m)
	agree(t, "the second one", y, n)
	agree(t, "a third one", made(t, pool...), fresh(span(1, 5)...))
}
