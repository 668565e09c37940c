package pool_test

import (
	"math"
	"math/rand"
	"slices"
	"testing"

	"lessor/api"
	"lessor/pool"
	"lessor/ratio"
)

// The greatest numbers that count, and the greatest address. They are written as
// numbers here, as the document has them.
const (
	most = 1 << 30
	last = 4294967295
)

// The special floats, and those next to them.
var (
	nan       = math.NaN()
	infinite  = math.Inf(1)
	minusZero = math.Copysign(0, -1)
	tiny      = math.SmallestNonzeroFloat64
	below1    = math.Nextafter(1, 0)
	above1    = math.Nextafter(1, 2)
)

// ids are those of the two servers, and numbers that are none.
func ids() []int {
	return []int{0, 1, 2, 3, -1, -2, 255, 256, 257, 1 << 32, 1<<32 + 1, math.MinInt, math.MinInt + 1, math.MaxInt - 1, math.MaxInt}
}

// numbers are those at the edges of what counts and of int, and ordinary ones.
func numbers() []int {
	return []int{
		math.MinInt, math.MinInt + 1, -most - 1, -most, -10, -1, 0, 1, 2, 3, 4, 5, 10, 100, 256,
		most / 2, most - 2, most - 1, most, most + 1, most + 2, 2 * most, 1 << 32, 1 << 40, math.MaxInt - 1, math.MaxInt,
	}
}

// parts are all kinds of Part.
func parts() []float64 {
	return []float64{
		nan, -nan, -infinite, -math.MaxFloat64, -1, -0.5, -tiny, minusZero, 0, tiny, 0x1p-31, 1e-9,
		0.1, 0.25, 1.0 / 3, math.Nextafter(0.5, 0), 0.5, math.Nextafter(0.5, 1), 2.0 / 3, 0.75, 0.9,
		below1, 1, above1, 1.5, 2, math.MaxFloat64, infinite,
	}
}

// slacks are all kinds of Slack.
func slacks() []float64 {
	return []float64{
		nan, -nan, -infinite, -math.MaxFloat64, -1, -0.1, -tiny, minusZero, 0, tiny,
		0.01, 0.1, 0.25, 0.5, 0.75, math.Nextafter(below1, 0), below1, 1, above1, 2, math.MaxFloat64, infinite,
	}
}

// slacksAt are those just below, at and just above the Uneven of numbers.
func slacksAt(free, backup int, part float64) []float64 {
	at := ratio.Uneven(free, backup, part)
	return []float64{math.Nextafter(at, -2), at, math.Nextafter(at, 2)}
}

// anyFloat is a random Part or Slack: most of them from 0 to 1, some of any kind.
func anyFloat(r *rand.Rand) float64 {
	switch r.Intn(8) {
	case 0:
		return math.Float64frombits(r.Uint64())
	case 1:
		return parts()[r.Intn(len(parts()))]
	case 2:
		return float64(r.Intn(100)) / 100
	case 3:
		return 2*r.Float64() - 0.5
	case 4:
		return r.Float64() / 50
	}
	return r.Float64()
}

// anyNumber is a random number of any size.
func anyNumber(r *rand.Rand) int {
	switch r.Intn(6) {
	case 0:
		return int(r.Uint64())
	case 1:
		return numbers()[r.Intn(len(numbers()))]
	case 2:
		return most - r.Intn(20) + 10
	}
	return r.Intn(300)
}

// anyId is a random id, most often that of a server.
func anyId(r *rand.Rand) int {
	if r.Intn(4) == 0 {
		return ids()[r.Intn(len(ids()))]
	}
	return r.Intn(2)
}

// counted is a number as ratio.Share counts it, by the words of chapter 5.
func counted(n int) int {
	switch {
	case n < 0:
		return 0
	case n > 1<<30:
		return 1 << 30
	}
	return n
}

// givesBy is Gives by the chapter's words.
func givesBy(p pool.Plan, id, free, backup int) int {
	above := ratio.Uneven(free, backup, p.Part) > p.Slack
	switch {
	case p.Slack != p.Slack, !above, id != 0 && id != 1:
		return 0
	case id == 0:
		return ratio.Share(free, backup, p.Part)
	}
	free, backup = counted(free), counted(backup)
	switch less := backup - ratio.Part(free+backup, p.Part); {
	case less < 0:
		return 0
	case less > backup:
		return backup
	default:
		return less
	}
}

// count is how many leases have a Bind.
func count(l []api.Lease, bind int) int {
	n := 0
	for _, one := range l {
		if one.Bind == bind {
			n++
		}
	}
	return n
}

// chosenBy is Chosen by the chapter's words: the greatest address that is left is
// taken, as often as the number says.
func chosenBy(p pool.Plan, id int, l []api.Lease) []api.Addr {
	left := []api.Addr{}
	for _, one := range l {
		if id == 0 && one.Bind == 0 || id == 1 && one.Bind == 1 {
			left = append(left, one.Addr)
		}
	}
	chosen := []api.Addr{}
	for range givesBy(p, id, count(l, 0), count(l, 1)) {
		at := slices.Index(left, slices.Max(left))
		chosen = append([]api.Addr{left[at]}, chosen...)
		left = slices.Delete(left, at, at+1)
	}
	return chosen
}

// check holds Gives against what it is to answer, and the words against that, too.
func check(t *testing.T, p pool.Plan, id, free, backup, want int) {
	t.Helper()
	if n := p.Gives(id, free, backup); n != want {
		t.Errorf("%v: Gives(%d, %d, %d) = %d, want %d", p, id, free, backup, n, want)
	}
	if n := givesBy(p, id, free, backup); n != want {
		t.Errorf("by the words, %v: Gives(%d, %d, %d) = %d, want %d", p, id, free, backup, n, want)
	}
}

// hold holds Gives against the words.
func hold(t *testing.T, p pool.Plan, id, free, backup int) {
	t.Helper()
	if n, want := p.Gives(id, free, backup), givesBy(p, id, free, backup); n != want {
		t.Fatalf("%v: Gives(%d, %d, %d) = %d, want %d", p, id, free, backup, n, want)
	}
}

// checkChosen holds Chosen against what it is to answer, and the words, too.
func checkChosen(t *testing.T, p pool.Plan, id int, l []api.Lease, want ...api.Addr) {
	t.Helper()
	if a := p.Chosen(id, l); !slices.Equal(a, want) {
		t.Errorf("%v: Chosen(%d, %v) = %v, want %v", p, id, l, a, want)
	}
	if a := chosenBy(p, id, l); !slices.Equal(a, want) {
		t.Errorf("by the words, %v: Chosen(%d, %v) = %v, want %v", p, id, l, a, want)
	}
}

// holdChosen holds Chosen against the words.
func holdChosen(t *testing.T, p pool.Plan, id int, l []api.Lease) {
	t.Helper()
	if a, want := p.Chosen(id, l), chosenBy(p, id, l); !slices.Equal(a, want) {
		t.Fatalf("%v: Chosen(%d, %v) = %v, want %v", p, id, l, a, want)
	}
}

// bare is a lease of nobody.
func bare(a api.Addr, bind int) api.Lease {
	return api.Lease{Addr: a, Bind: bind, Ver: 3}
}

// bares are leases of nobody, of several addresses.
func bares(bind int, addrs ...api.Addr) []api.Lease {
	var l []api.Lease
	for _, a := range addrs {
		l = append(l, bare(a, bind))
	}
	return l
}

// P17.1: Gives

func TestGives(t *testing.T) {
	half := pool.Plan{Part: 0.5, Slack: 0.1}
	for _, c := range []struct {
		p                pool.Plan
		id, free, backup int
		want             int
	}{
		// The chapter's examples.
		{half, 0, 10, 0, 5}, {half, 1, 0, 10, 5},
		// Ordinary ones: the server that has more gives what the other one lacks.
		{half, 0, 8, 2, 3}, {half, 1, 2, 8, 3}, {half, 1, 8, 2, 0}, {half, 0, 2, 8, 0}, {half, 0, 9, 0, 4}, {half, 1, 0, 9, 5}, {half, 0, 256, 0, 128},
		{pool.Plan{Part: 0.25, Slack: 0.1}, 0, 100, 0, 25}, {pool.Plan{Part: 0.25, Slack: 0.1}, 1, 0, 100, 75}, {pool.Plan{Part: 0.25, Slack: 0.1}, 1, 50, 50, 25},
		{pool.Plan{Part: 0.75, Slack: 0.1}, 0, 50, 50, 25}, {pool.Plan{Part: 0.75, Slack: 0.1}, 1, 50, 50, 0},
		// What is even enough stays as it is.
		{half, 0, 5, 5, 0}, {half, 1, 5, 5, 0}, {half, 0, 6, 5, 0}, {half, 1, 5, 6, 0}, {half, 0, 59, 41, 0}, {half, 0, 61, 39, 11}, {half, 1, 41, 59, 0}, {half, 1, 39, 61, 11},
		// There is nothing, or nothing that could be given.
		{half, 0, 0, 0, 0}, {half, 1, 0, 0, 0}, {half, 0, 0, 10, 0}, {half, 1, 10, 0, 0}, {half, 0, 1, 0, 0}, {half, 1, 0, 1, 1}, {half, 0, 2, 0, 1}, {half, 1, 0, 2, 1}, {half, 0, 0, 1, 0}, {half, 1, 1, 0, 0},
	} {
		check(t, c.p, c.id, c.free, c.backup, c.want)
	}
}

func TestGivesOfEachId(t *testing.T) {
	for _, p := range []pool.Plan{{Part: 0.5, Slack: 0.1}, {Part: 0.5, Slack: -1}, {Part: 1, Slack: -infinite}, {Part: 0, Slack: 0}} {
		for _, id := range ids() {
			if id == 0 || id == 1 {
				continue
			}
			for _, free := range numbers() {
				for _, backup := range numbers() {
					check(t, p, id, free, backup, 0)
				}
			}
		}
	}
}

// Numbers at their edges: as 0, or as 2^30.
func TestGivesOfNumbersAtTheirEdges(t *testing.T) {
	half, all, none := pool.Plan{Part: 0.5, Slack: 0.1}, pool.Plan{Part: 1, Slack: 0.1}, pool.Plan{Part: 0, Slack: 0.1}
	quarter, most34 := pool.Plan{Part: 0.25, Slack: 0.1}, pool.Plan{Part: 0.75, Slack: 0.1}
	for _, c := range []struct {
		p                pool.Plan
		id, free, backup int
		want             int
	}{
		{half, 0, -1, 0, 0}, {half, 0, 0, -1, 0}, {half, 1, -1, 0, 0}, {half, 1, 0, -1, 0}, {half, 0, -5, -5, 0}, {half, 1, -5, -5, 0},
		{half, 0, math.MinInt, math.MinInt, 0}, {half, 1, math.MinInt, math.MinInt, 0}, {all, 0, -7, -7, 0}, {none, 1, -7, -7, 0},
		{half, 0, 10, -1, 5}, {half, 0, 10, -6, 5}, {half, 0, 10, math.MinInt, 5}, {half, 1, -1, 10, 5}, {half, 1, -6, 10, 5}, {half, 1, math.MinInt, 10, 5},
		{half, 0, -1, 10, 0}, {half, 0, math.MinInt, 10, 0}, {half, 1, 10, -1, 0}, {half, 1, 10, math.MinInt, 0},
		{all, 0, 1, 0, 1}, {all, 0, 1, -1, 1}, {none, 1, 0, 1, 1}, {none, 1, -1, 1, 1},
		{all, 0, most - 1, 0, most - 1}, {all, 0, most, 0, most}, {all, 0, most + 1, 0, most}, {all, 0, math.MaxInt, 0, most}, {all, 0, math.MaxInt, math.MinInt, most},
		{none, 1, 0, most - 1, most - 1}, {none, 1, 0, most, most}, {none, 1, 0, most + 1, most}, {none, 1, 0, math.MaxInt, most}, {none, 1, math.MinInt, math.MaxInt, most},
		{half, 0, most, 0, most / 2}, {half, 0, most + 2, 0, most / 2}, {half, 0, math.MaxInt, -1, most / 2},
		{half, 1, 0, most, most / 2}, {half, 1, 0, most + 2, most / 2}, {half, 1, -1, math.MaxInt, most / 2},
		{half, 0, 3 * most, most, 0}, {half, 1, most, 3 * most, 0}, {half, 0, math.MaxInt, math.MaxInt, 0}, {half, 1, math.MaxInt, math.MaxInt, 0},
		{most34, 0, most, most, most / 2}, {most34, 0, most + 1, most, most / 2}, {most34, 0, most, most + 1, most / 2}, {most34, 0, math.MaxInt, math.MaxInt, most / 2},
		{quarter, 1, most, most, most / 2}, {quarter, 1, most + 1, most, most / 2}, {quarter, 1, most, most + 1, most / 2}, {quarter, 1, math.MaxInt, math.MaxInt, most / 2},
		{none, 1, math.MaxInt, math.MaxInt, most}, {all, 0, math.MaxInt, math.MaxInt, most}, {none, 0, math.MaxInt, math.MaxInt, 0}, {all, 1, math.MaxInt, math.MaxInt, 0},
	} {
		check(t, c.p, c.id, c.free, c.backup, c.want)
	}
}

// A Part that is NaN, or not above 0, is none of it; one of 1 or more is all of it.
func TestGivesOfSpecialParts(t *testing.T) {
	for _, part := range []float64{nan, -nan, -infinite, -math.MaxFloat64, -1, -0.5, -tiny, minusZero, 0} {
		for _, slack := range []float64{-infinite, -1, 0, 0.1, 0.4} {
			p := pool.Plan{Part: part, Slack: slack}
			check(t, p, 0, 10, 0, 0)
			check(t, p, 0, 5, 5, 0)
			check(t, p, 1, 10, 0, 0)
			check(t, p, 1, 5, 5, 5)
			check(t, p, 1, 0, 10, 10)
			check(t, p, 1, 0, 1, 1)
			check(t, p, 1, 0, 0, 0)
		}
	}
	for _, part := range []float64{1, above1, 1.5, 2, math.MaxFloat64, infinite} {
		for _, slack := range []float64{-infinite, -1, 0, 0.1, 0.4} {
			p := pool.Plan{Part: part, Slack: slack}
			check(t, p, 0, 10, 0, 10)
			check(t, p, 0, 5, 5, 5)
			check(t, p, 0, 1, 0, 1)
			check(t, p, 0, 0, 10, 0)
			check(t, p, 0, 0, 0, 0)
			check(t, p, 1, 10, 0, 0)
			check(t, p, 1, 5, 5, 0)
			check(t, p, 1, 0, 10, 0)
		}
	}
	for _, c := range []struct {
		part             float64
		id, free, backup int
		want             int
	}{
		{tiny, 0, 10, 0, 0}, {tiny, 1, 5, 5, 5}, {tiny, 1, 0, most, most}, {below1, 0, 10, 0, 9}, {below1, 1, 0, 10, 1}, {below1, 1, 1, 9, 0}, {below1, 0, most, 0, most - 1},
		{math.Nextafter(0.5, 0), 0, 10, 0, 4}, {math.Nextafter(0.5, 0), 1, 0, 10, 6}, {math.Nextafter(0.5, 0), 1, 5, 5, 1}, {math.Nextafter(0.5, 1), 0, 10, 0, 5}, {math.Nextafter(0.5, 1), 1, 0, 10, 5},
	} {
		check(t, pool.Plan{Part: c.part, Slack: 0}, c.id, c.free, c.backup, c.want)
	}
}

// Of what is uneven by 0.5, or not at all, or by 1.
func TestGivesOfSpecialSlacks(t *testing.T) {
	for _, slack := range []float64{nan, -nan, math.Float64frombits(0x7ff0000000000001), math.Float64frombits(0xffffffffffffffff), infinite, math.MaxFloat64, 2, above1, 1} {
		for _, part := range parts() {
			p := pool.Plan{Part: part, Slack: slack}
			for _, n := range []int{0, 1, 10, most, math.MaxInt} {
				check(t, p, 0, n, 0, 0)
				check(t, p, 1, 0, n, 0)
				check(t, p, 0, n, n, 0)
				check(t, p, 1, n, n, 0)
			}
		}
	}
	for _, slack := range []float64{-infinite, -1, -tiny, minusZero, 0, tiny, 0.1, math.Nextafter(0.5, 0)} {
		check(t, pool.Plan{Part: 0.5, Slack: slack}, 0, 10, 0, 5)
		check(t, pool.Plan{Part: 0.5, Slack: slack}, 1, 0, 10, 5)
		check(t, pool.Plan{Part: 0.5, Slack: slack}, 0, 5, 5, 0)
		check(t, pool.Plan{Part: 0.5, Slack: slack}, 1, 5, 5, 0)
	}
	for _, slack := range []float64{0.5, math.Nextafter(0.5, 1), 0.75, below1} {
		check(t, pool.Plan{Part: 0.5, Slack: slack}, 0, 10, 0, 0)
		check(t, pool.Plan{Part: 0.5, Slack: slack}, 1, 0, 10, 0)
		check(t, pool.Plan{Part: 1, Slack: slack}, 0, 10, 0, 10)
		check(t, pool.Plan{Part: 0, Slack: slack}, 1, 0, 10, 10)
		check(t, pool.Plan{Part: nan, Slack: slack}, 1, 5, 5, 5)
	}
}

// With the Slack just below it, they are uneven; with it, or more, they aren't.
func TestGivesWithSlackAtUneven(t *testing.T) {
	given := [2]int{}
	for _, free := range numbers() {
		for _, backup := range numbers() {
			for _, part := range parts() {
				at := slacksAt(free, backup, part)
				for id := range 2 {
					hold(t, pool.Plan{Part: part, Slack: at[0]}, id, free, backup)
					check(t, pool.Plan{Part: part, Slack: at[1]}, id, free, backup, 0)
					check(t, pool.Plan{Part: part, Slack: at[2]}, id, free, backup, 0)
					if (pool.Plan{Part: part, Slack: at[0]}).Gives(id, free, backup) > 0 {
						given[id]++
					}
				}
			}
		}
	}
	if given[0] == 0 || given[1] == 0 {
		t.Error(given)
	}
	check(t, pool.Plan{Part: 0.5, Slack: 0.25}, 0, 3, 1, 0)
	check(t, pool.Plan{Part: 0.5, Slack: math.Nextafter(0.25, 0)}, 0, 3, 1, 1)
	check(t, pool.Plan{Part: 0.5, Slack: 0.25}, 1, 1, 3, 0)
	check(t, pool.Plan{Part: 0.5, Slack: math.Nextafter(0.25, 0)}, 1, 1, 3, 1)
}

func TestGivesAtAllEdges(t *testing.T) {
	for _, free := range numbers() {
		for _, backup := range numbers() {
			for _, part := range parts() {
				for _, slack := range slacks() {
					for _, id := range []int{-1, 0, 1, 2} {
						hold(t, pool.Plan{Part: part, Slack: slack}, id, free, backup)
					}
				}
			}
		}
	}
}

func TestGivesOfRandomArguments(t *testing.T) {
	r := rand.New(rand.NewSource(17))
	for range 400000 {
		p := pool.Plan{Part: anyFloat(r), Slack: anyFloat(r)}
		free, backup := anyNumber(r), anyNumber(r)
		if r.Intn(4) == 0 {
			p.Slack = slacksAt(free, backup, p.Part)[r.Intn(3)]
		}
		hold(t, p, anyId(r), free, backup)
	}
}

// Wrong inputs together: a Plan of NaNs, ids that are none, numbers below 0.
func TestGivesOfWrongInputs(t *testing.T) {
	for _, id := range ids() {
		for _, free := range numbers() {
			for _, backup := range numbers() {
				check(t, pool.Plan{Part: nan, Slack: nan}, id, free, backup, 0)
				if free <= 0 && backup <= 0 {
					for _, part := range parts() {
						check(t, pool.Plan{Part: part, Slack: -infinite}, id, free, backup, 0)
					}
				}
			}
		}
	}
}

// P17.2: Chosen

func TestChosen(t *testing.T) {
	half := pool.Plan{Part: 0.5, Slack: 0.1}
	ten := bares(0, 1, 2, 3, 4, 5, 6, 7, 8, 9, 10)
	checkChosen(t, half, 0, ten, 6, 7, 8, 9, 10)
	checkChosen(t, half, 1, ten)
	ten = bares(1, 1, 2, 3, 4, 5, 6, 7, 8, 9, 10)
	checkChosen(t, half, 1, ten, 6, 7, 8, 9, 10)
	checkChosen(t, half, 0, ten)
	// The greatest of its own, wherever the other one's are.
	mixed := append(bares(0, 1, 2, 3, 4, 5, 6), bares(1, 7, 8)...)
	checkChosen(t, half, 0, mixed, 5, 6)
	checkChosen(t, half, 1, mixed)
	mixed = append(bares(0, 7, 8), bares(1, 1, 2, 3, 4, 5, 6)...)
	checkChosen(t, half, 0, mixed)
	checkChosen(t, half, 1, mixed, 5, 6)
	// Even ones, one, and all of them.
	checkChosen(t, half, 0, append(bares(0, 1, 2), bares(1, 3, 4)...))
	checkChosen(t, half, 1, append(bares(0, 1, 2), bares(1, 3, 4)...))
	checkChosen(t, half, 0, bares(0, 5))
	checkChosen(t, half, 1, bares(1, 5), 5)
	checkChosen(t, half, 0, bares(0, 5, 6), 6)
	checkChosen(t, pool.Plan{Part: 1}, 0, bares(0, 5, 6, 7), 5, 6, 7)
	checkChosen(t, pool.Plan{Part: 0}, 1, bares(1, 5, 6, 7), 5, 6, 7)
}

func TestChosenOfNoLeases(t *testing.T) {
	for _, id := range ids() {
		for _, part := range parts() {
			for _, slack := range slacks() {
				checkChosen(t, pool.Plan{Part: part, Slack: slack}, id, nil)
				checkChosen(t, pool.Plan{Part: part, Slack: slack}, id, []api.Lease{})
			}
		}
	}
}

// What somebody has, or had, or is abandoned, is nobody's share: it isn't chosen,
// and doesn't count.
func TestChosenOfEachBind(t *testing.T) {
	half := pool.Plan{Part: 0.5, Slack: 0.1}
	for _, bind := range []int{-1, 2, 3, 4, 5, 6, 256, 257, math.MinInt, math.MaxInt} {
		others := bares(bind, 11, 12, 13, 14, 15, 16)
		for _, id := range ids() {
			checkChosen(t, half, id, others)
		}
		checkChosen(t, half, 0, append(bares(0, 1, 2, 3, 4), others...), 3, 4)
		checkChosen(t, half, 1, append(bares(0, 1, 2, 3, 4), others...))
		checkChosen(t, half, 0, append(bares(1, 1, 2, 3, 4), others...))
		checkChosen(t, half, 1, append(bares(1, 1, 2, 3, 4), others...), 3, 4)
	}
	var each []api.Lease
	for bind := -1; bind <= 6; bind++ {
		each = append(each, bares(bind, api.Addr(10+bind), api.Addr(20+bind))...)
	}
	for _, id := range ids() {
		checkChosen(t, half, id, each)
		hands := pool.Plan{Part: 1, Slack: 0.1}
		if id == 0 {
			checkChosen(t, hands, id, each, 10, 20)
		} else {
			checkChosen(t, hands, id, each)
		}
		hands.Part = 0
		if id == 1 {
			checkChosen(t, hands, id, each, 11, 21)
		} else {
			checkChosen(t, hands, id, each)
		}
	}
}

func TestChosenOfEachId(t *testing.T) {
	for _, id := range ids() {
		if id == 0 || id == 1 {
			continue
		}
		for bind := 0; bind <= 1; bind++ {
			for _, part := range parts() {
				for _, slack := range slacks() {
					checkChosen(t, pool.Plan{Part: part, Slack: slack}, id, bares(bind, 1, 2, 3))
				}
			}
		}
	}
}

// The leases' order doesn't count: the addresses' does.
func TestChosenOfLeasesInAnyOrder(t *testing.T) {
	half := pool.Plan{Part: 0.5, Slack: 0.1}
	checkChosen(t, half, 0, bares(0, 4, 2, 1, 9), 4, 9)
	checkChosen(t, half, 0, bares(0, 9, 4, 2, 1), 4, 9)
	checkChosen(t, half, 1, bares(1, 9, 1, 4, 2), 4, 9)
	r := rand.New(rand.NewSource(170))
	l := append(bares(0, 1, 2, 3, 4, 5, 6, 7), bares(1, 100, 101)...)
	l = append(l, bares(2, 50, 200)...)
	for range 300 {
		r.Shuffle(len(l), func(i, j int) { l[i], l[j] = l[j], l[i] })
		checkChosen(t, half, 0, l, 6, 7)
		checkChosen(t, half, 1, l)
		checkChosen(t, pool.Plan{Part: 0}, 1, l, 100, 101)
	}
}

// Two leases of one address are two.
func TestChosenOfLeasesOfOneAddress(t *testing.T) {
	half := pool.Plan{Part: 0.5, Slack: 0.1}
	for bind := 0; bind <= 1; bind++ {
		checkChosen(t, half, bind, bares(bind, 5, 5), 5)
		checkChosen(t, half, bind, bares(bind, 5, 5, 5, 5), 5, 5)
		checkChosen(t, half, bind, bares(bind, 5, 1, 5, 2), 5, 5)
		checkChosen(t, half, bind, bares(bind, 5, 9, 5, 2), 5, 9)
		checkChosen(t, pool.Plan{Part: float64(1 - bind)}, bind, bares(bind, 5, 9, 5), 5, 5, 9)
	}
	both := append(bares(0, 5), bares(1, 5)...)
	checkChosen(t, half, 0, both)
	checkChosen(t, half, 1, both)
	checkChosen(t, pool.Plan{Part: 1}, 0, both, 5)
	checkChosen(t, pool.Plan{Part: 0}, 1, both, 5)
}

func TestChosenOfAddressesAtTheirEdges(t *testing.T) {
	half := pool.Plan{Part: 0.5, Slack: 0.1}
	for bind := 0; bind <= 1; bind++ {
		checkChosen(t, half, bind, bares(bind, 0, last), last)
		checkChosen(t, half, bind, bares(bind, last, 0), last)
		checkChosen(t, half, bind, bares(bind, last, 1<<31, 1<<31-1, 0), 1<<31, last)
		checkChosen(t, half, bind, bares(bind, 0, last-1, 1, last), last-1, last)
		checkChosen(t, half, bind, bares(bind, 0, 0), 0)
		checkChosen(t, pool.Plan{Part: float64(1 - bind)}, bind, bares(bind, last, 0), 0, last)
		checkChosen(t, pool.Plan{Part: float64(1 - bind)}, bind, bares(bind, 0), 0)
	}
}

// Bind alone tells whose share a lease is in: the other fields don't count.
func TestChosenOfLeasesThatAreNotValid(t *testing.T) {
	half := pool.Plan{Part: 0.5, Slack: 0.1}
	for bind := 0; bind <= 1; bind++ {
		wrong := []api.Lease{
			{Addr: 11, Bind: bind, Client: "a"}, {Addr: 12, Bind: bind, Until: -1, Acked: 1 << 41}, {Addr: 13, Bind: bind, Told: 9, At: 9},
			{Addr: 14, Bind: bind, Ver: -1}, {Addr: 15, Bind: bind, Ver: math.MaxInt},
		}
		checkChosen(t, half, bind, append(wrong, bares(bind, 1, 2, 3)...), 12, 13, 14, 15)
		checkChosen(t, half, 1-bind, append(wrong, bares(bind, 1, 2, 3)...))
		none := []api.Lease{{Addr: 21, Bind: 2}, {Addr: 22, Bind: -1, Ver: -1}, {Addr: 23, Bind: 6, Client: "a"}, {Addr: 24, Bind: math.MaxInt}}
		checkChosen(t, half, bind, append(none, bares(bind, 1, 2, 3, 4)...), 3, 4)
		checkChosen(t, pool.Plan{Part: nan, Slack: nan}, bind, append(wrong, none...))
	}
}

// anyLeases are random ones, of few addresses, or of any.
func anyLeases(r *rand.Rand) []api.Lease {
	var l []api.Lease
	space := []int{3, 40, 1 << 32}[r.Intn(3)]
	binds := 1 + r.Intn(6)
	for range r.Intn(40) {
		one := api.Lease{Addr: api.Addr(r.Intn(space)), Bind: r.Intn(binds), Ver: r.Intn(9)}
		if r.Intn(10) == 0 {
			one.Bind = r.Intn(8) - 1
		}
		if r.Intn(10) == 0 {
			one.Client, one.Until = "a", r.Intn(9)-2
		}
		l = append(l, one)
	}
	return l
}

func TestChosenOfRandomLeases(t *testing.T) {
	r := rand.New(rand.NewSource(171))
	given := [2]int{}
	for range 60000 {
		l, p, id := anyLeases(r), pool.Plan{Part: anyFloat(r), Slack: anyFloat(r)}, anyId(r)
		if r.Intn(4) == 0 {
			p.Slack = slacksAt(count(l, 0), count(l, 1), p.Part)[r.Intn(3)]
		}
		holdChosen(t, p, id, l)
		a := p.Chosen(id, l)
		if len(a) != p.Gives(id, count(l, 0), count(l, 1)) || !slices.IsSorted(a) {
			t.Fatalf("%v: Chosen(%d, %v) = %v", p, id, l, a)
		}
		if len(a) > 0 {
			given[id]++
		}
	}
	if given[0] == 0 || given[1] == 0 {
		t.Error(given)
	}
}

// P17.3: the theorem

// At most one of the two servers gives some, and no more than it has.
func TestAtMostOneGives(t *testing.T) {
	atMostOne := func(p pool.Plan, free, backup int) {
		t.Helper()
		first, other := p.Gives(0, free, backup), p.Gives(1, free, backup)
		if first < 0 || first > max(free, 0) || other < 0 || other > max(backup, 0) || first > 0 && other > 0 {
			t.Fatalf("%v: of %d and %d, %d and %d are given", p, free, backup, first, other)
		}
	}
	for _, free := range numbers() {
		for _, backup := range numbers() {
			for _, part := range parts() {
				for _, slack := range slacks() {
					atMostOne(pool.Plan{Part: part, Slack: slack}, free, backup)
				}
			}
		}
	}
	r := rand.New(rand.NewSource(172))
	for range 200000 {
		atMostOne(pool.Plan{Part: anyFloat(r), Slack: anyFloat(r)}, anyNumber(r), anyNumber(r))
	}
}

// After both have given, none gives any more: of all numbers that count as they
// are, before and after.
func TestNothingIsGivenAfterBothHave(t *testing.T) {
	done := func(p pool.Plan, free, backup int) {
		t.Helper()
		first, other := p.Gives(0, free, backup), p.Gives(1, free, backup)
		nextFree, nextBackup := free-first+other, backup+first-other
		if max(nextFree, nextBackup) > most {
			return
		}
		if a, b := p.Gives(0, nextFree, nextBackup), p.Gives(1, nextFree, nextBackup); a != 0 || b != 0 {
			t.Fatalf("%v: of %d and %d, %d and %d are given, and then %d and %d", p, free, backup, first, other, a, b)
		}
	}
	for _, part := range parts() {
		for _, slack := range slacks() {
			for _, free := range []int{0, 1, 2, 3, 10, 128, 256, most / 2, most - 2, most - 1, most} {
				for _, backup := range []int{0, 1, 2, 3, 10, 128, 256, most / 2, most - 2, most - 1, most} {
					done(pool.Plan{Part: part, Slack: slack}, free, backup)
				}
			}
		}
	}
	for free := range 41 {
		for backup := range 41 {
			for i := range 41 {
				done(pool.Plan{Part: float64(i) / 40, Slack: 0}, free, backup)
				done(pool.Plan{Part: float64(i) / 40, Slack: -1}, free, backup)
				done(pool.Plan{Part: float64(i) / 40, Slack: 0.05}, free, backup)
			}
		}
	}
	r := rand.New(rand.NewSource(173))
	for range 200000 {
		done(pool.Plan{Part: anyFloat(r), Slack: anyFloat(r)}, r.Intn(257), r.Intn(257))
		done(pool.Plan{Part: anyFloat(r), Slack: anyFloat(r)}, r.Intn(most+1), r.Intn(most+1))
	}
}

// transfer is the leases after those of some addresses were given by the server
// id; of several leases of one address, as many as are named.
func transfer(t *testing.T, l []api.Lease, id int, addrs []api.Addr) []api.Lease {
	t.Helper()
	after := slices.Clone(l)
	for _, a := range addrs {
		at := slices.IndexFunc(after, func(one api.Lease) bool { return one.Addr == a && one.Bind == id })
		if at < 0 {
			t.Fatalf("the server %d gives %d, which is not its own: %v", id, a, l)
		}
		after[at].Bind = 1 - id
		after[at].Ver++
	}
	return after
}

// Of leases, too: each server gives its own alone, at most one gives some, and
// after both have, in either order, none does.
func TestTransfersOfLeases(t *testing.T) {
	r := rand.New(rand.NewSource(174))
	given := [2]int{}
	for range 40000 {
		l, p := anyLeases(r), pool.Plan{Part: anyFloat(r), Slack: anyFloat(r)}
		first, other := p.Chosen(0, l), p.Chosen(1, l)
		if len(first) > 0 && len(other) > 0 {
			t.Fatalf("%v: of %v, %v and %v are given", p, l, first, other)
		}
		after := transfer(t, transfer(t, l, 0, first), 1, other)
		if a, b := p.Chosen(0, after), p.Chosen(1, after); len(a) > 0 || len(b) > 0 {
			t.Fatalf("%v: of %v, %v and %v are given, and then %v and %v", p, l, first, other, a, b)
		}
		for _, order := range [][]int{{0, 1}, {1, 0}} {
			after := l
			for _, id := range order {
				chosen := p.Chosen(id, after)
				after = transfer(t, after, id, chosen)
				if len(chosen) > 0 {
					given[id]++
				}
			}
			for _, id := range []int{0, 1, 0, 1} {
				if a := p.Chosen(id, after); len(a) > 0 {
					t.Fatalf("%v: of %v, after both have given, the server %d gives %v", p, l, id, a)
				}
			}
		}
	}
	if given[0] == 0 || given[1] == 0 {
		t.Error(given)
	}
}

// R3, R4: arguments stay as they are, results share no memory, and the same
// arguments have the same answer.

func TestNothingIsShared(t *testing.T) {
	p := pool.Plan{Part: 0.5, Slack: 0.1}
	for bind := 0; bind <= 1; bind++ {
		l := append(bares(bind, 9, 3, 7, 1), bares(2, 8, 2)...)
		before := slices.Clone(l)
		one := p.Chosen(bind, l)
		if !slices.Equal(l, before) {
			t.Fatalf("Chosen changed its leases to %v", l)
		}
		two := p.Chosen(bind, l)
		for n := range one {
			one[n] = 5
		}
		_ = append(one, 6)
		if !slices.Equal(two, []api.Addr{7, 9}) || !slices.Equal(l, before) {
			t.Fatalf("a changed answer changed %v, or %v", two, l)
		}
		l[0].Addr, l[0].Bind = 0, 5
		checkChosen(t, p, bind, before, 7, 9)
		if !slices.Equal(two, []api.Addr{7, 9}) {
			t.Fatalf("changed leases changed %v", two)
		}
	}
}

func TestNothingIsKept(t *testing.T) {
	p := pool.Plan{Part: 0.5, Slack: 0.1}
	for range 2 {
		check(t, p, 0, 10, 0, 5)
		check(t, p, 1, 0, 10, 5)
		checkChosen(t, p, 0, bares(0, 2, 1), 2)
		(pool.Plan{Part: nan, Slack: nan}).Gives(1, math.MaxInt, math.MaxInt)
		(pool.Plan{Part: infinite, Slack: -infinite}).Gives(0, math.MaxInt, math.MinInt)
		(pool.Plan{Part: nan}).Chosen(1, bares(1, 1, 2, 3))
	}
	if p != (pool.Plan{Part: 0.5, Slack: 0.1}) {
		t.Error(p)
	}
}

// The zero Plan, which has no New of its own: no part is the server 1's.
func TestZeroPlan(t *testing.T) {
	check(t, pool.Plan{}, 0, 10, 10, 0)
	check(t, pool.Plan{}, 1, 10, 10, 10)
	checkChosen(t, pool.Plan{}, 1, bares(1, 3, 2), 2, 3)
	checkChosen(t, pool.Plan{}, 0, bares(0, 3, 2))
}

func FuzzGives(f *testing.F) {
	for _, n := range numbers() {
		f.Add(0, n, 3, 0.5, 0.1)
		f.Add(1, 3, n, 0.25, -1.0)
	}
	for _, part := range parts() {
		f.Add(1, 7, 2, part, 0.01)
		f.Add(0, 7, 2, 0.5, part)
	}
	f.Fuzz(func(t *testing.T, id, free, backup int, part, slack float64) {
		hold(t, pool.Plan{Part: part, Slack: slack}, id, free, backup)
		for _, at := range slacksAt(free, backup, part) {
			hold(t, pool.Plan{Part: part, Slack: at}, id&1, free, backup)
		}
	})
}
