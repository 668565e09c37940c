package grant_test

import (
	"math"
	"math/rand"
	"strings"
	"testing"

	"lessor/api"
	"lessor/clock"
	"lessor/fsm"
	"lessor/grant"
	"lessor/lease"
)

// most is the last moment. It is written as a number here, as the document has it.
const most = 1 << 40

// numbers are those at the edges of moments and of int, and ordinary ones.
func numbers() []int {
	return []int{
		math.MinInt, math.MinInt + 1, -1 << 62, -2 * most, -most - 1, -most, -most + 1, -1000, -2, -1,
		0, 1, 2, 5, 9, 10, 50, 1000, most / 2, most - 11, most - 10, most - 2, most - 1,
		most, most + 1, most + 10, 2 * most, 2*most + 1, 1 << 62, math.MaxInt - most, math.MaxInt - 1, math.MaxInt,
	}
}

// binds are those of api, and numbers that are none.
func binds() []int {
	return []int{0, 1, 2, 3, 4, 5, 6, 7, -1, -2, 64, math.MinInt, math.MaxInt}
}

// states are those of api, and numbers that are none.
func states() []int {
	return []int{0, 1, 2, 3, 4, 5, 6, 7, 8, 9, 10, -1, -2, 63, 64, 65, 66, 67, math.MinInt, math.MinInt + 3, math.MaxInt}
}

// isServing is whether clients are served in a state, by chapter 14: in Normal,
// Interrupted and PartnerDown.
func isServing(state int) bool { return state == 1 || state == 2 || state == 3 }

// nearest is the number from 0 to top that is nearest to n.
func nearest(n, top int) int {
	switch {
	case n < 0:
		return 0
	case n > top:
		return top
	}
	return n
}

// moment is n, limited.
func moment(n int) int { return nearest(n, most) }

// greater is the greater one of two numbers.
func greater(a, b int) int {
	if a > b {
		return a
	}
	return b
}

// untilBy is Until by the chapter's words.
func untilBy(r grant.Rules, now, want, acked int) int {
	wanted := moment(moment(now) + moment(want))
	led := moment(greater(moment(now), moment(acked)) + moment(r.Lead))
	if wanted < led {
		return wanted
	}
	return led
}

// leaseBy is Lease by the chapter's words.
func leaseBy(r grant.Rules, l api.Lease, client string, now, want int) api.Lease {
	if l.Bind == 2 && l.Client == client {
		until := greater(moment(l.Until), untilBy(r, now, want, l.Acked))
		return api.Lease{
			Addr: l.Addr, Bind: 2, Client: client, Until: until,
			Acked: l.Acked, Told: l.Told, At: moment(now), Ver: l.Ver,
		}
	}
	return api.Lease{
		Addr: l.Addr, Bind: 2, Client: client, Until: untilBy(r, now, want, 0),
		Acked: 0, Told: 0, At: moment(now), Ver: l.Ver,
	}
}

// potentialBy is Potential by the chapter's words.
func potentialBy(l api.Lease, now, want int) int {
	return greater(moment(l.Until), moment(moment(now)+moment(want)))
}

// ownBy is Own by the chapter's words.
func ownBy(r grant.Rules) int {
	if r.Id == 0 {
		return 0
	}
	return 1
}

// mayBy is May by the chapter's words.
func mayBy(r grant.Rules, l api.Lease, state, now, entry int) bool {
	own := l.Bind == ownBy(r)
	bound := greater(moment(entry), greater(moment(l.Until), moment(l.Told)))
	span := nearest(moment(r.Lead)+moment(r.Guard), most)
	past := moment(now) > bound+span
	return isServing(state) && (own || state == 3 && l.Bind != 5 && past)
}

// anyNumber is a random number: of any size, at an edge, or an ordinary one.
func anyNumber(r *rand.Rand) int {
	switch r.Intn(8) {
	case 0:
		return int(r.Uint64())
	case 1:
		all := numbers()
		return all[r.Intn(len(all))]
	case 2:
		return most - r.Intn(40) + 20
	case 3:
		return r.Intn(most + 1)
	}
	return r.Intn(60) - 10
}

// anyRules are random rules, of a server that there is or isn't.
func anyRules(r *rand.Rand) grant.Rules {
	return grant.Rules{Id: r.Intn(4) - 1, Lead: anyNumber(r), Guard: anyNumber(r)}
}

// anyLease is a random lease, most often one that is not valid.
func anyLease(r *rand.Rand) api.Lease {
	clients := []string{"", "a", "a", "b", strings.Repeat("x", 32), strings.Repeat("x", 33)}
	l := api.Lease{
		Addr: api.Addr(r.Uint32()), Bind: r.Intn(8) - 1, Client: clients[r.Intn(len(clients))],
		Until: anyNumber(r), Acked: anyNumber(r), Told: anyNumber(r), At: anyNumber(r), Ver: anyNumber(r),
	}
	if r.Intn(2) == 0 {
		l.Bind = 2
	}
	return l
}

// each calls f with rules of each Lead and Guard at the edges.
func each(f func(r grant.Rules)) {
	for _, lead := range numbers() {
		for _, guard := range numbers() {
			f(grant.Rules{Id: 0, Lead: lead, Guard: guard})
			f(grant.Rules{Id: 1, Lead: lead, Guard: guard})
		}
	}
}

// P15.1

// untilCase is what Until is to answer.
type untilCase struct{ lead, now, want, acked, until int }

func checkUntil(t *testing.T, cases []untilCase) {
	t.Helper()
	for _, c := range cases {
		for id := -1; id <= 2; id++ {
			r := grant.Rules{Id: id, Lead: c.lead, Guard: 7 * id}
			if n := r.Until(c.now, c.want, c.acked); n != c.until {
				t.Errorf("%+v.Until(%d, %d, %d) = %d, want %d", r, c.now, c.want, c.acked, n, c.until)
			}
			if n := untilBy(r, c.now, c.want, c.acked); n != c.until {
				t.Errorf("by the words, %+v.Until(%d, %d, %d) = %d, want %d", r, c.now, c.want, c.acked, n, c.until)
			}
		}
	}
}

func TestUntilOfOrdinaryNumbers(t *testing.T) {
	checkUntil(t, []untilCase{
		{10, 5, 100, 0, 15},
		{10, 5, 100, 50, 60},
		{10, 5, 3, 50, 8},
		{10, 5, 9, 0, 14},
		{10, 5, 10, 0, 15},
		{10, 5, 11, 0, 15},
		{10, 5, 54, 50, 59},
		{10, 5, 55, 50, 60},
		{10, 5, 56, 50, 60},
		{10, 0, 0, 0, 0},
		{10, 0, 100, 0, 10},
		{3600, 1000, 86400, 500, 4600},
		{3600, 1000, 86400, 87400, 87400},
		{3600, 1000, 86400, 83000, 86600},
	})
}

// The other server has acknowledged less than now, just that, and more.
func TestUntilOfAckedAroundNow(t *testing.T) {
	checkUntil(t, []untilCase{
		{10, 20, 100, 0, 30},
		{10, 20, 100, 19, 30},
		{10, 20, 100, 20, 30},
		{10, 20, 100, 21, 31},
		{10, 20, 100, 30, 40},
		{10, 20, 100, 109, 119},
		{10, 20, 100, 110, 120},
		{10, 20, 100, 111, 120},
		{10, 20, 100, 1000, 120},
	})
}

// A want or a Lead below 0 is treated as 0.
func TestUntilBelowZero(t *testing.T) {
	checkUntil(t, []untilCase{
		{10, 5, 0, 0, 5},
		{10, 5, -1, 0, 5},
		{10, 5, -5, 0, 5},
		{10, 5, -1, 50, 5},
		{10, 5, math.MinInt, 50, 5},
		{0, 5, 100, 0, 5},
		{-1, 5, 100, 0, 5},
		{-5, 5, 100, 0, 5},
		{0, 5, 100, 50, 50},
		{-1, 5, 100, 50, 50},
		{-1, 5, 3, 50, 8},
		{math.MinInt, 5, 100, 50, 50},
		{-1, 5, -1, 50, 5},
		{0, 0, 0, 0, 0},
		{-1, -1, -1, -1, 0},
		{math.MinInt, math.MinInt, math.MinInt, math.MinInt, 0},
	})
}

// now and acked are limited.
func TestUntilOfNumbersThatAreNoMoments(t *testing.T) {
	checkUntil(t, []untilCase{
		{10, -1, 100, 0, 10},
		{10, -1, 3, 0, 3},
		{10, -1, 100, 20, 30},
		{10, math.MinInt, 100, 0, 10},
		{10, 5, 100, -1, 15},
		{10, 5, 100, math.MinInt, 15},
		{10, -7, 100, -3, 10},
		{10, most - 11, 100, 0, most - 1},
		{10, most - 10, 100, 0, most},
		{10, most - 9, 100, 0, most},
		{10, most, 100, 0, most},
		{10, most + 1, 100, 0, most},
		{10, most, 0, 0, most},
		{0, most + 1, 0, 0, most},
		{10, math.MaxInt, 100, 0, most},
		{10, 5, 100, most, 105},
		{10, 5, 100, most + 1, 105},
		{10, 5, 100, math.MaxInt, 105},
		{10, 5, most, most - 11, most - 1},
		{10, 5, most, most - 10, most},
		{10, 5, most - 5, most, most},
		{10, 5, most - 6, most, most - 1},
		{10, 5, math.MaxInt, 0, 15},
		{10, 5, math.MaxInt, 50, 60},
		{10, 5, math.MaxInt, math.MaxInt, most},
		{math.MaxInt, 5, 100, 0, 105},
		{math.MaxInt, 5, most, 0, most},
		{math.MaxInt, 5, math.MaxInt, 50, most},
		{math.MaxInt, math.MaxInt, math.MaxInt, math.MaxInt, most},
		{most, 0, most, 0, most},
		{most - 1, 0, most, 0, most - 1},
		{most + 1, 0, most - 1, 0, most - 1},
	})
}

func TestUntilOfAllEdges(t *testing.T) {
	for _, lead := range numbers() {
		r := grant.Rules{Lead: lead}
		for _, now := range numbers() {
			for _, want := range numbers() {
				for _, acked := range numbers() {
					if n, m := r.Until(now, want, acked), untilBy(r, now, want, acked); n != m {
						t.Fatalf("%+v.Until(%d, %d, %d) = %d, want %d", r, now, want, acked, n, m)
					}
				}
			}
		}
	}
}

// P15.2

// leaseCase is what Lease is to answer.
type leaseCase struct {
	what      string
	l         api.Lease
	client    string
	now, want int
	next      api.Lease
}

func checkLease(t *testing.T, cases []leaseCase) {
	t.Helper()
	for _, c := range cases {
		r := grant.Rules{Id: 1, Lead: 10, Guard: 2}
		if l := r.Lease(c.l, c.client, c.now, c.want); l != c.next {
			t.Errorf("%s: Lease(%+v, %q, %d, %d) = %+v, want %+v", c.what, c.l, c.client, c.now, c.want, l, c.next)
		}
		if l := leaseBy(r, c.l, c.client, c.now, c.want); l != c.next {
			t.Errorf("%s: by the words, Lease(%+v, %q, %d, %d) = %+v, want %+v", c.what, c.l, c.client, c.now, c.want, l, c.next)
		}
	}
}

// held is what a client has.
func held(client string, until, acked, told, at, ver int) api.Lease {
	return api.Lease{Addr: 3, Bind: api.Active, Client: client, Until: until, Acked: acked, Told: told, At: at, Ver: ver}
}

// A client that has the address keeps what it was promised, and what the two
// servers know of it.
func TestLeaseOfOneThatHasIt(t *testing.T) {
	checkLease(t, []leaseCase{
		{"nothing acknowledged", held("a", 15, 0, 0, 5, 7), "a", 9, 100, held("a", 19, 0, 0, 9, 7)},
		{"acknowledged", held("a", 15, 105, 0, 5, 7), "a", 9, 100, held("a", 109, 105, 0, 9, 7)},
		{"acknowledged less", held("a", 15, 30, 44, 5, 7), "a", 9, 100, held("a", 40, 30, 44, 9, 7)},
		{"told of more", held("a", 15, 0, 99, 5, 7), "a", 9, 100, held("a", 19, 0, 99, 9, 7)},
		{"Until above", held("a", 50, 0, 44, 5, 7), "a", 9, 100, held("a", 50, 0, 44, 9, 7)},
		{"Until one above", held("a", 20, 0, 44, 5, 7), "a", 9, 100, held("a", 20, 0, 44, 9, 7)},
		{"Until the same", held("a", 19, 0, 44, 5, 7), "a", 9, 100, held("a", 19, 0, 44, 9, 7)},
		{"Until one below", held("a", 18, 0, 44, 5, 7), "a", 9, 100, held("a", 19, 0, 44, 9, 7)},
		{"want less", held("a", 15, 105, 44, 5, 7), "a", 9, 1, held("a", 15, 105, 44, 9, 7)},
		{"want nothing", held("a", 3, 105, 44, 5, 7), "a", 9, 0, held("a", 9, 105, 44, 9, 7)},
		{"want below 0", held("a", 3, 105, 44, 5, 7), "a", 9, -4, held("a", 9, 105, 44, 9, 7)},
		{"at an earlier moment", held("a", 15, 0, 44, 9, 7), "a", 2, 100, held("a", 15, 0, 44, 2, 7)},
		{"now below 0", held("a", 3, 0, 44, 5, 7), "a", -9, 100, held("a", 10, 0, 44, 0, 7)},
		{"now the least", held("a", 3, 0, 44, 5, 7), "a", math.MinInt, 4, held("a", 4, 0, 44, 0, 7)},
		{"now the last", held("a", 3, 0, 44, 5, 7), "a", most, 4, held("a", most, 0, 44, most, 7)},
		{"now above", held("a", 3, 0, 44, 5, 7), "a", most + 1, 4, held("a", most, 0, 44, most, 7)},
		{"now the greatest", held("a", 3, 0, 44, 5, 7), "a", math.MaxInt, 4, held("a", most, 0, 44, most, 7)},
	})
}

// To anybody else, an address is promised as if the other server knew nothing.
func TestLeaseOfSomebodyNew(t *testing.T) {
	fresh := func(client string, until, at, ver int) api.Lease {
		return api.Lease{Addr: 3, Bind: api.Active, Client: client, Until: until, At: at, Ver: ver}
	}
	expired, released := held("a", 50, 105, 44, 5, 7), held("a", 50, 105, 44, 5, 7)
	expired.Bind, released.Bind = api.Expired, api.Released
	checkLease(t, []leaseCase{
		{"Free", lease.Bare(3, api.Free, 0), "a", 9, 100, fresh("a", 19, 9, 0)},
		{"Backup", lease.Bare(3, api.Backup, 7), "a", 5, 100, fresh("a", 15, 5, 7)},
		{"Abandoned", lease.Bare(3, api.Abandoned, 7), "a", 5, 100, fresh("a", 15, 5, 7)},
		{"another client's", held("b", 50, 105, 44, 5, 7), "a", 9, 100, fresh("a", 19, 9, 7)},
		{"a longer name", held("ab", 50, 105, 44, 5, 7), "a", 9, 100, fresh("a", 19, 9, 7)},
		{"another case", held("A", 50, 105, 44, 5, 7), "a", 9, 100, fresh("a", 19, 9, 7)},
		{"Expired", expired, "a", 9, 100, fresh("a", 19, 9, 7)},
		{"Released", released, "a", 9, 100, fresh("a", 19, 9, 7)},
		{"Expired, of another", expired, "b", 9, 100, fresh("b", 19, 9, 7)},
		{"want less", released, "a", 9, 3, fresh("a", 12, 9, 7)},
		{"want below 0", released, "a", 9, -3, fresh("a", 9, 9, 7)},
		{"now below 0", released, "a", -9, 100, fresh("a", 10, 0, 7)},
		{"now the last", released, "a", most, 100, fresh("a", most, most, 7)},
		{"now above", released, "a", most + 1, 100, fresh("a", most, most, 7)},
		{"now the greatest", released, "a", math.MaxInt, 100, fresh("a", most, most, 7)},
	})
}

// A lease that is not valid, or a name that is none, is taken as it is.
func TestLeaseOfWrongInputs(t *testing.T) {
	low := api.Lease{Addr: 3, Bind: api.Active, Client: "a", Until: -1, Acked: -1, Told: -1, At: -1, Ver: -1}
	lowNext := api.Lease{Addr: 3, Bind: api.Active, Client: "a", Until: 19, Acked: -1, Told: -1, At: 9, Ver: -1}
	high := api.Lease{Addr: 3, Bind: api.Active, Client: "a", Until: most + 1, Acked: most + 2, Told: most + 3, At: most + 4, Ver: most + 5}
	highNext := high
	highNext.Until, highNext.At = most, 9
	long := strings.Repeat("x", 1000)
	checkLease(t, []leaseCase{
		{"numbers below 0", low, "a", 9, 100, lowNext},
		{"numbers above", high, "a", 9, 100, highNext},
		{"numbers above, of another", high, "b", 9, 100, api.Lease{Addr: 3, Bind: api.Active, Client: "b", Until: 19, At: 9, Ver: most + 5}},
		{"no client", held("", 15, 105, 44, 5, 7), "", 9, 100, held("", 109, 105, 44, 9, 7)},
		{"no client, new", held("a", 15, 105, 44, 5, 7), "", 9, 100, held("", 19, 0, 0, 9, 7)},
		{"a long name", held(long, 15, 105, 44, 5, 7), long, 9, 100, held(long, 109, 105, 44, 9, 7)},
		{"a long name, new", held("a", 15, 105, 44, 5, 7), long, 9, 100, held(long, 19, 0, 0, 9, 7)},
		{"no Bind", api.Lease{Addr: 3, Bind: 6, Client: "a", Until: 50, Acked: 105, Ver: 7}, "a", 9, 100, held("a", 19, 0, 0, 9, 7)},
		{"a Bind below 0", api.Lease{Addr: 3, Bind: -1, Client: "a", Until: 50, Acked: 105, Ver: 7}, "a", 9, 100, held("a", 19, 0, 0, 9, 7)},
		{"Free of a client", api.Lease{Addr: 3, Bind: api.Free, Client: "a", Until: 50, Acked: 105, Ver: 7}, "a", 9, 100, held("a", 19, 0, 0, 9, 7)},
	})
}

func TestLeaseOfAllEdges(t *testing.T) {
	for _, lead := range numbers() {
		r := grant.Rules{Id: 1, Lead: lead, Guard: 2}
		for _, now := range numbers() {
			for _, want := range numbers() {
				for _, n := range numbers() {
					for _, l := range []api.Lease{held("a", n, 30, 44, 5, 7), held("a", 30, n, 44, 5, 7)} {
						if m, is := r.Lease(l, "a", now, want), leaseBy(r, l, "a", now, want); m != is {
							t.Fatalf("%+v.Lease(%+v, a, %d, %d) = %+v, want %+v", r, l, now, want, m, is)
						}
					}
				}
			}
		}
	}
}

// A lease that is valid stays so, however it is promised to a client that is one.
func TestLeaseIsValid(t *testing.T) {
	rnd := rand.New(rand.NewSource(1))
	seen := 0
	for range 100000 {
		r, l := anyRules(rnd), anyLease(rnd)
		if !lease.Right(l) {
			continue
		}
		seen++
		if m := r.Lease(l, "a", anyNumber(rnd), anyNumber(rnd)); !lease.Right(m) {
			t.Fatalf("%+v: %+v became %+v, which is not valid", r, l, m)
		}
	}
	if seen < 1000 {
		t.Errorf("only %d leases were valid", seen)
	}
}

func TestPotential(t *testing.T) {
	cases := []struct{ until, now, want, pot int }{
		{15, 5, 100, 105},
		{104, 5, 100, 105},
		{105, 5, 100, 105},
		{106, 5, 100, 106},
		{500, 5, 100, 500},
		{0, 0, 0, 0},
		{3, 5, 0, 5},
		{3, 5, -1, 5},
		{3, 5, -5, 5},
		{3, 5, math.MinInt, 5},
		{9, 5, 0, 9},
		{9, 5, -1, 9},
		{0, -1, 100, 100},
		{0, -1, -1, 0},
		{0, math.MinInt, 100, 100},
		{3, most, 100, most},
		{3, most + 1, 0, most},
		{3, math.MaxInt, 0, most},
		{3, math.MaxInt, math.MaxInt, most},
		{3, 5, most - 6, most - 1},
		{3, 5, most - 5, most},
		{3, 5, most, most},
		{3, 5, math.MaxInt, most},
		{most, 5, 100, most},
		{-1, 5, 100, 105},
		{-1, 0, 0, 0},
		{math.MinInt, 0, -1, 0},
		{most + 1, 5, 100, most},
		{math.MaxInt, 5, 100, most},
	}
	for _, c := range cases {
		for _, bind := range binds() {
			// Nothing but Until counts, of the lease and of the rules.
			l := api.Lease{Addr: 3, Bind: bind, Client: "a", Until: c.until, Acked: 7000, Told: 8000, At: 9000, Ver: 9900}
			for _, r := range []grant.Rules{{}, {Id: 1, Lead: 10, Guard: 2}, {Id: 7, Lead: -1, Guard: -1}, {Lead: math.MaxInt, Guard: math.MaxInt}} {
				if n := r.Potential(l, c.now, c.want); n != c.pot {
					t.Errorf("%+v.Potential(%+v, %d, %d) = %d, want %d", r, l, c.now, c.want, n, c.pot)
				}
			}
		}
	}
}

func TestPotentialOfAllEdges(t *testing.T) {
	for _, until := range numbers() {
		l := held("a", until, 0, 0, 0, 0)
		for _, now := range numbers() {
			for _, want := range numbers() {
				if n, m := (grant.Rules{Lead: 10}).Potential(l, now, want), potentialBy(l, now, want); n != m {
					t.Fatalf("Potential(%+v, %d, %d) = %d, want %d", l, now, want, n, m)
				}
			}
		}
	}
}

// P15.3

func TestOwn(t *testing.T) {
	cases := []struct{ id, own int }{
		{0, api.Free}, {1, api.Backup}, {2, api.Backup}, {-1, api.Backup}, {3, api.Backup},
		{math.MinInt, api.Backup}, {math.MaxInt, api.Backup}, {1 << 32, api.Backup},
	}
	for _, c := range cases {
		for _, n := range numbers() {
			r := grant.Rules{Id: c.id, Lead: n, Guard: -n}
			if own := r.Own(); own != c.own {
				t.Errorf("%+v.Own() = %d, want %d", r, own, c.own)
			}
		}
	}
}

// checkMay fails unless r may give l, or may not, in that state.
func checkMay(t *testing.T, r grant.Rules, l api.Lease, state, now, entry int, may bool) {
	t.Helper()
	if is := r.May(l, state, now, entry); is != may {
		t.Errorf("%+v.May(%+v, %d, %d, %d) = %t, want %t", r, l, state, now, entry, is, may)
	}
	if is := mayBy(r, l, state, now, entry); is != may {
		t.Errorf("by the words, %+v.May(%+v, %d, %d, %d) = %t, want %t", r, l, state, now, entry, is, may)
	}
}

// What is its own a server may give in each state that serves, at any moment.
func TestMayOfItsOwn(t *testing.T) {
	for _, state := range states() {
		for id := -1; id <= 2; id++ {
			r := grant.Rules{Id: id, Lead: 10, Guard: 2}
			l := lease.Bare(3, r.Own(), 7)
			late := l
			late.Until, late.Told = most, most
			for _, now := range numbers() {
				checkMay(t, r, l, state, now, 20, isServing(state))
				checkMay(t, r, l, state, 20, now, isServing(state))
				checkMay(t, r, late, state, now, 20, isServing(state))
			}
		}
	}
}

// What is not its own a server may give in PartnerDown alone, and there only once
// all is over.
func TestMayOfOthers(t *testing.T) {
	for _, state := range states() {
		for _, bind := range binds() {
			for id := -1; id <= 2; id++ {
				r := grant.Rules{Id: id, Lead: 10, Guard: 2}
				if bind == r.Own() {
					continue
				}
				l := api.Lease{Addr: 3, Bind: bind, Client: "a", Until: 30, Told: 25, Acked: 900, At: 900, Ver: 900}
				down := state == api.PartnerDown && bind != api.Abandoned
				checkMay(t, r, l, state, 41, 20, false)
				checkMay(t, r, l, state, 42, 20, false)
				checkMay(t, r, l, state, 43, 20, down)
				checkMay(t, r, l, state, 1000, 20, down)
				checkMay(t, r, l, state, most, 20, down)
			}
		}
	}
}

// The bound is the greatest one of entry, Until and Told, and behind it Lead and
// Guard.
func TestMayAtTheBound(t *testing.T) {
	cases := []struct {
		lead, guard               int
		entry, until, told, bound int
	}{
		{10, 2, 20, 0, 0, 32},
		{10, 2, 20, 19, 18, 32},
		{10, 2, 20, 20, 20, 32},
		{10, 2, 20, 21, 0, 33},
		{10, 2, 20, 0, 21, 33},
		{10, 2, 20, 30, 40, 52},
		{10, 2, 20, 40, 30, 52},
		{10, 2, 50, 30, 40, 62},
		{10, 2, 0, 0, 0, 12},
		{10, 2, -5, 0, 0, 12},
		{10, 2, math.MinInt, 9, 0, 21},
		{10, 2, -5, -9, -7, 12},
		{10, 0, 20, 0, 0, 30},
		{0, 2, 20, 0, 0, 22},
		{0, 0, 20, 0, 0, 20},
		{-1, 2, 20, 0, 0, 22},
		{-10, 2, 20, 0, 0, 22},
		{10, -1, 20, 0, 0, 30},
		{10, -10, 20, 0, 0, 30},
		{-1, -1, 20, 0, 0, 20},
		{math.MinInt, math.MinInt, 20, 0, 0, 20},
		{math.MinInt, 2, 20, 0, 0, 22},
		{10, math.MinInt, 20, 0, 0, 30},
		{10, 2, most - 13, 0, 0, most - 1},
		{10, 2, 20, most - 13, 0, most - 1},
		{10, 2, 20, 0, most - 13, most - 1},
		{most - 3, 2, 0, 0, 0, most - 1},
		{2, most - 3, 0, 0, 0, most - 1},
	}
	for _, c := range cases {
		r := grant.Rules{Id: 1, Lead: c.lead, Guard: c.guard}
		for _, l := range []api.Lease{
			{Addr: 3, Bind: api.Free, Until: c.until, Told: c.told},
			{Addr: 3, Bind: api.Active, Client: "a", Until: c.until, Told: c.told, Acked: most, At: most, Ver: most},
			{Addr: 3, Bind: api.Expired, Client: "a", Until: c.until, Told: c.told},
			{Addr: 3, Bind: api.Released, Client: "a", Until: c.until, Told: c.told},
		} {
			checkMay(t, r, l, api.PartnerDown, c.bound-1, c.entry, false)
			checkMay(t, r, l, api.PartnerDown, c.bound, c.entry, false)
			checkMay(t, r, l, api.PartnerDown, c.bound+1, c.entry, true)
			checkMay(t, r, l, api.Normal, c.bound+1, c.entry, false)
			checkMay(t, r, l, api.Interrupted, c.bound+1, c.entry, false)
		}
		abandoned := api.Lease{Addr: 3, Bind: api.Abandoned, Until: c.until, Told: c.told}
		checkMay(t, r, abandoned, api.PartnerDown, c.bound+1, c.entry, false)
		checkMay(t, r, abandoned, api.PartnerDown, most, c.entry, false)
	}
}

// Where the bound is the last moment, or would be behind it, nothing is past.
func TestMayNeverIsBehindTheLastMoment(t *testing.T) {
	free := lease.Bare(3, api.Free, 0)
	told, until := held("a", 0, 0, most, 0, 0), held("a", most, 0, 0, 0, 0)
	for _, now := range []int{0, 20, most - 1, most, most + 1, 2 * most, math.MaxInt - 1, math.MaxInt} {
		none := grant.Rules{Id: 1}
		checkMay(t, none, free, api.PartnerDown, now, most, false)
		checkMay(t, none, free, api.PartnerDown, now, most+1, false)
		checkMay(t, none, free, api.PartnerDown, now, math.MaxInt, false)
		checkMay(t, none, told, api.PartnerDown, now, 0, false)
		checkMay(t, none, until, api.PartnerDown, now, 0, false)
		for _, r := range []grant.Rules{
			{Id: 1, Lead: most}, {Id: 1, Guard: most}, {Id: 1, Lead: most - 1, Guard: 1}, {Id: 1, Lead: most / 2, Guard: most / 2},
			{Id: 1, Lead: math.MaxInt}, {Id: 1, Guard: math.MaxInt}, {Id: 1, Lead: math.MaxInt, Guard: 1},
			{Id: 1, Lead: math.MaxInt, Guard: math.MaxInt}, {Id: 1, Lead: math.MaxInt, Guard: math.MinInt},
			{Id: 1, Lead: math.MinInt, Guard: math.MaxInt}, {Id: 1, Lead: 1 << 62, Guard: 1 << 62},
		} {
			checkMay(t, r, free, api.PartnerDown, now, 0, false)
		}
	}
}

func TestMayOfAllEdges(t *testing.T) {
	l := held("a", 30, 0, 40, 0, 0)
	each(func(r grant.Rules) {
		for _, now := range numbers() {
			for _, entry := range numbers() {
				for _, state := range []int{api.PartnerDown, api.Normal} {
					if is, by := r.May(l, state, now, entry), mayBy(r, l, state, now, entry); is != by {
						t.Fatalf("%+v.May(%+v, %d, %d, %d) = %t, want %t", r, l, state, now, entry, is, by)
					}
				}
			}
		}
	})
}

// P15.4

// However often a client asks, what it is promised is at most Lead beyond the
// greater one of now and what was acknowledged, but for what it was promised
// before.
func TestPromisesAreWithinLead(t *testing.T) {
	rnd := rand.New(rand.NewSource(2))
	for range 2000 {
		r := grant.Rules{Id: rnd.Intn(2), Lead: rnd.Intn(40), Guard: rnd.Intn(5)}
		l, now, kept := lease.Bare(3, rnd.Intn(2), 0), rnd.Intn(20), 0
		for range 30 {
			client, want := []string{"a", "a", "b"}[rnd.Intn(3)], anyNumber(rnd)
			acked := l.Acked
			if l.Bind != api.Active || l.Client != client {
				kept, acked = 0, 0
			}
			bound := greater(kept, greater(now, acked)+r.Lead)
			l = r.Lease(l, client, now, want)
			if l.Until > bound {
				t.Fatalf("%+v: at %d, %+v is promised, beyond %d", r, now, l, bound)
			}
			if l.Until < kept || l.Until < now {
				t.Fatalf("%+v: at %d, %+v is promised, which ends before %d", r, now, l, kept)
			}
			if pot := r.Potential(l, now, want); pot < l.Until {
				t.Fatalf("%+v: at %d, %+v is promised, and the other server is to know of %d alone", r, now, l, pot)
			}
			kept = l.Until
			if rnd.Intn(2) == 0 {
				l.Acked = greater(l.Acked, r.Potential(l, now, want%1000))
			}
			now += rnd.Intn(30)
		}
	}
}

// By Until alone, with any numbers, a promise is within Lead, and within what is
// wanted.
func TestUntilIsWithinLead(t *testing.T) {
	rnd := rand.New(rand.NewSource(3))
	for range 200000 {
		r, now, want, acked := anyRules(rnd), anyNumber(rnd), anyNumber(rnd), anyNumber(rnd)
		n := r.Until(now, want, acked)
		if n < moment(now) || n > most {
			t.Fatalf("%+v.Until(%d, %d, %d) = %d, which is no moment from now on", r, now, want, acked, n)
		}
		if n > greater(moment(now), moment(acked))+moment(r.Lead) || n > moment(now)+moment(want) {
			t.Fatalf("%+v.Until(%d, %d, %d) = %d, which is too far", r, now, want, acked, n)
		}
	}
}

// In every state but PartnerDown, only its own addresses are given by a server.
func TestOnlyItsOwnIsGiven(t *testing.T) {
	rnd := rand.New(rand.NewSource(4))
	for range 200000 {
		r, l := anyRules(rnd), anyLease(rnd)
		state := states()[rnd.Intn(len(states()))]
		if !r.May(l, state, anyNumber(rnd), anyNumber(rnd)) {
			continue
		}
		if state != api.PartnerDown && l.Bind != r.Own() {
			t.Fatalf("%+v may give %+v in state %d", r, l, state)
		}
		if !fsm.Serves(state) {
			t.Fatalf("%+v may give %+v in state %d, which does not serve", r, l, state)
		}
	}
}

// No address that is free, or was freed, is given by both servers where neither
// is in PartnerDown.
func TestNotBothGive(t *testing.T) {
	for _, bind := range binds() {
		for _, first := range states() {
			for _, other := range states() {
				l := api.Lease{Addr: 3, Bind: bind}
				a, b := grant.Rules{Id: 0, Lead: 10}, grant.Rules{Id: 1, Lead: 10}
				if first == api.PartnerDown || other == api.PartnerDown {
					continue
				}
				if a.May(l, first, 1000, 0) && b.May(l, other, 1000, 0) {
					t.Errorf("both may give %+v, in states %d and %d", l, first, other)
				}
			}
		}
	}
}

// What a server gives in PartnerDown, and that is not its own, is over for all
// that the other server may have promised: that one knew of at most Told as
// acknowledged, was heard at entry the last time, and has a clock that is at most
// Guard off.
func TestOthersAreGivenBehindTheirPromises(t *testing.T) {
	rnd := rand.New(rand.NewSource(5))
	given := 0
	for range 300000 {
		base := []int{0, 0, 1000, most - 100}[rnd.Intn(4)]
		lead, guard := rnd.Intn(15), rnd.Intn(4)
		down, other := grant.Rules{Id: rnd.Intn(2), Lead: lead, Guard: guard}, grant.Rules{Lead: lead, Guard: guard}
		other.Id = 1 - down.Id
		off := rnd.Intn(2*guard+1) - guard
		entry := base + rnd.Intn(30)
		at := entry - rnd.Intn(10)
		l := held("a", base+rnd.Intn(30), 0, base+rnd.Intn(40), 0, 0)
		theirs := api.Lease{Addr: l.Addr, Bind: api.Active, Client: "a", Acked: l.Told - rnd.Intn(5)}
		theirs = other.Lease(theirs, "a", clock.At(at, off), anyNumber(rnd))
		now := entry + rnd.Intn(60)
		if now > most || at < 0 || !down.May(l, api.PartnerDown, now, entry) {
			continue
		}
		given++
		if now <= l.Until || now+off <= theirs.Until {
			t.Fatalf("%+v at %d (entered at %d) may give %+v, of which the other server, %d off, knows %+v", down, now, entry, l, off, theirs)
		}
	}
	if given < 1000 {
		t.Errorf("only %d addresses were given", given)
	}
}

// P1, R3 and R4: with any arguments, all answer what the words say, again and
// again, and what they were given is as it was.
func TestRandomAgainstTheWords(t *testing.T) {
	rnd := rand.New(rand.NewSource(6))
	for range 300000 {
		r, l := anyRules(rnd), anyLease(rnd)
		client := []string{"a", "b", "", l.Client}[rnd.Intn(4)]
		state := states()[rnd.Intn(len(states()))]
		now, n := anyNumber(rnd), anyNumber(rnd)
		wasRules, was := r, l
		for range 2 {
			if m, by := r.Until(now, n, l.Acked), untilBy(r, now, n, l.Acked); m != by {
				t.Fatalf("%+v.Until(%d, %d, %d) = %d, want %d", r, now, n, l.Acked, m, by)
			}
			if m, by := r.Lease(l, client, now, n), leaseBy(r, l, client, now, n); m != by {
				t.Fatalf("%+v.Lease(%+v, %q, %d, %d) = %+v, want %+v", r, l, client, now, n, m, by)
			}
			if m, by := r.Potential(l, now, n), potentialBy(l, now, n); m != by {
				t.Fatalf("%+v.Potential(%+v, %d, %d) = %d, want %d", r, l, now, n, m, by)
			}
			if m, by := r.Own(), ownBy(r); m != by {
				t.Fatalf("%+v.Own() = %d, want %d", r, m, by)
			}
			if m, by := r.May(l, state, now, n), mayBy(r, l, state, now, n); m != by {
				t.Fatalf("%+v.May(%+v, %d, %d, %d) = %t, want %t", r, l, state, now, n, m, by)
			}
		}
		if r != wasRules || l != was {
			t.Fatalf("%+v and %+v became %+v and %+v", wasRules, was, r, l)
		}
	}
}

// The zero value of Rules is rules, too: those of the server 0, without any lead.
func TestRulesOfZero(t *testing.T) {
	var r grant.Rules
	if r.Until(5, 100, 0) != 5 || r.Until(5, 100, 50) != 50 || r.Own() != api.Free {
		t.Error("the zero value does not answer as rules without a lead")
	}
	if !r.May(api.Lease{}, api.Normal, 0, 0) || r.May(lease.Bare(1, api.Backup, 0), api.PartnerDown, 5, 5) || !r.May(lease.Bare(1, api.Backup, 0), api.PartnerDown, 6, 5) {
		t.Error("the zero value does not give as the server 0 without a lead")
	}
}

// Rules with all numbers below 0 are those of the other server, without a lead.
func TestRulesBelowZero(t *testing.T) {
	for _, r := range []grant.Rules{{Id: -1, Lead: -1, Guard: -1}, {Id: -9, Lead: -10, Guard: -2}, {Id: math.MinInt, Lead: math.MinInt, Guard: math.MinInt}} {
		if r.Until(5, 100, 0) != 5 || r.Until(5, 100, 50) != 50 || r.Until(-5, -100, -50) != 0 || r.Own() != api.Backup {
			t.Errorf("%+v does not answer as rules without a lead", r)
		}
		if l := r.Lease(lease.Bare(3, api.Backup, 7), "a", 9, 100); l != held("a", 9, 0, 0, 9, 7) {
			t.Errorf("%+v.Lease of a Backup one = %+v", r, l)
		}
		checkMay(t, r, lease.Bare(3, api.Backup, 7), api.Normal, 0, 0, true)
		checkMay(t, r, lease.Bare(3, api.Free, 7), api.Normal, 9, 0, false)
		checkMay(t, r, lease.Bare(3, api.Free, 7), api.PartnerDown, 5, 5, false)
		checkMay(t, r, lease.Bare(3, api.Free, 7), api.PartnerDown, 6, 5, true)
	}
}
