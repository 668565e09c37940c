package ratio_test

import (
	"math"
	"math/big"
	"math/rand"
	"slices"
	"testing"

	"lessor/ratio"
)

// The edges of what can be multiplied, and of what can be shared.
const (
	mostParted = 1 << 40
	mostShared = 1 << 30
)

// The special floats, and those next to them.
var (
	nan       = math.NaN()
	infinite  = math.Inf(1)
	minusZero = math.Copysign(0, -1)
	tiny      = math.SmallestNonzeroFloat64
	below1    = math.Nextafter(1, 0)
	above1    = math.Nextafter(1, 2)
)

// increasingParts are all kinds of parts but NaN, each greater than the one
// before it, but for 0, which follows -0.
func increasingParts() []float64 {
	return []float64{
		-infinite, -math.MaxFloat64, -1e18, -above1, -1, -below1, -0.5, -tiny, minusZero, 0,
		tiny, math.Nextafter(tiny, 1), 0x1p-1022, 1e-300, 0x1p-53, 0x1p-41, 0x1p-40, 0x1p-31, 0x1p-30, 1e-9,
		0.1, 0.25, 1.0 / 3, math.Nextafter(0.5, 0), 0.5, math.Nextafter(0.5, 1), 2.0 / 3, 0.7, 0.75, 0.875, 0.99,
		math.Nextafter(below1, 0), below1, 1, above1, 1.5, 2, 1e18, 1e19, 0x1p63, 0x1p64, math.MaxFloat64, infinite,
	}
}

// parts are all kinds of parts.
func parts() []float64 {
	return append(increasingParts(), nan, -nan, math.Float64frombits(0x7ff0000000000001), math.Float64frombits(0xffffffffffffffff))
}

// numbers are those at the edges of int, of Part, and of Share, and ordinary ones.
func numbers() []int {
	return []int{
		math.MinInt, math.MinInt + 1, -mostParted - 1, -mostParted, -1 << 32, -mostShared - 1, -mostShared, -7, -2, -1,
		0, 1, 2, 3, 4, 5, 7, 8, 10, 49, 100, 255, 256, 1000, 65535,
		mostShared - 1, mostShared, mostShared + 1, mostShared + 2, 1<<31 - 1, 1 << 31, 1<<32 - 1, 1 << 32, 1<<32 + 3,
		mostParted - 1, mostParted, mostParted + 1, mostParted + 2, 1 << 41, 1<<53 + 1, 1 << 62, math.MaxInt - 1, math.MaxInt,
	}
}

// anyPart is a random part: most of them from 0 to 1, some of any kind.
func anyPart(r *rand.Rand) float64 {
	switch r.Intn(8) {
	case 0:
		return math.Float64frombits(r.Uint64())
	case 1:
		return parts()[r.Intn(len(parts()))]
	case 2:
		return float64(r.Intn(1000)) / 1000
	case 3:
		return 2*r.Float64() - 0.5
	}
	return r.Float64()
}

// anyNumber is a random number of any size.
func anyNumber(r *rand.Rand) int {
	switch r.Intn(6) {
	case 0:
		return int(r.Uint64())
	case 1:
		return numbers()[r.Intn(len(numbers()))]
	case 2:
		return r.Intn(300)
	}
	return r.Intn(1 << (1 + r.Intn(42)))
}

// float is x in the arithmetic of package big, with the digits of a float64.
func float(x float64) *big.Float {
	return new(big.Float).SetPrec(53).SetMode(big.ToNearestEven).SetFloat64(x)
}

func number(n int) *big.Float {
	return new(big.Float).SetPrec(53).SetMode(big.ToNearestEven).SetInt64(int64(n))
}

// wantPart is Part by P5.1, calculated without floats.
func wantPart(n int, part float64) int {
	switch {
	case n < 1, part != part, !(part > 0):
		return 0
	case n > mostParted:
		n = mostParted
	}
	if part >= 1 {
		return n
	}
	product := number(0).Mul(number(n), float(part))
	whole, _ := product.Int64()
	return min(int(whole), n)
}

func counted(n int) int {
	switch {
	case n < 0:
		return 0
	case n > mostShared:
		return mostShared
	}
	return n
}

func wantShare(mine, other int, part float64) int {
	mine, other = counted(mine), counted(other)
	switch share := wantPart(mine+other, part) - other; {
	case share < 0:
		return 0
	case share > mine:
		return mine
	default:
		return share
	}
}

// wantUneven is Uneven by P5.4, calculated without floats.
func wantUneven(mine, other int, part float64) float64 {
	mine, other = counted(mine), counted(other)
	switch {
	case mine == 0 && other == 0:
		return 0
	case part != part:
		return 1
	case math.IsInf(part, 0):
		return 1
	}
	apart := number(0).Quo(number(other), number(mine+other))
	apart.Sub(apart, float(part)).Abs(apart)
	if apart.Cmp(float(1)) > 0 {
		return 1
	}
	x, _ := apart.Float64()
	return x
}

// P5.1: Part.

func TestPart(t *testing.T) {
	for _, c := range []struct {
		n    int
		part float64
		want int
	}{
		// Ordinary ones, rounded down.
		{7, 0.5, 3}, {8, 0.5, 4}, {7, 0.1, 0}, {10, 0.1, 1}, {100, 0.5, 50}, {100, 0.875, 87}, {100, 0.999, 99},
		{256, 0.25, 64}, {3, 1.0 / 3, 1}, {1, 0.5, 0}, {2, 0.5, 1}, {2, math.Nextafter(0.5, 0), 0},
		// The product is one of floats: that of 100 and 0.29 is a bit less than 29, and that of 10 and 0.1 is 1.
		{100, 0.29, 28}, {1000, 0.001, 1}, {10, 0.3, 3},
		// n at its edges.
		{0, 0.5, 0}, {0, 1, 0}, {0, infinite, 0}, {1, 1, 1}, {1, below1, 0}, {1, above1, 1},
		{-1, 0.5, 0}, {-1, -0.5, 0}, {-3, 1, 0}, {-3, -infinite, 0}, {math.MinInt, 1, 0}, {math.MinInt, -1, 0}, {math.MinInt, 0.5, 0},
		{mostParted - 1, 1, mostParted - 1}, {mostParted, 1, mostParted}, {mostParted + 1, 1, mostParted},
		{mostParted, 0.5, mostParted / 2}, {mostParted + 1, 0.5, mostParted / 2}, {mostParted + 2, 0.5, mostParted / 2},
		{mostParted - 1, 0.5, mostParted/2 - 1}, {1 << 50, 0x1p-40, 1}, {mostParted, 0x1p-40, 1}, {mostParted - 1, 0x1p-40, 0},
		{math.MaxInt, 1, mostParted}, {math.MaxInt, infinite, mostParted}, {math.MaxInt, 0.5, mostParted / 2}, {math.MaxInt, 0, 0},
		// part at its edges.
		{7, 0, 0}, {7, minusZero, 0}, {7, -tiny, 0}, {7, tiny, 0}, {7, -0.5, 0}, {7, -1, 0}, {7, -infinite, 0},
		{7, below1, 6}, {7, 1, 7}, {7, above1, 7}, {7, 2, 7}, {7, 1e300, 7}, {7, infinite, 7}, {7, nan, 0}, {7, -nan, 0},
		{mostParted, tiny, 0}, {mostParted, below1, mostParted - 1}, {mostParted, above1, mostParted},
		{0, nan, 0}, {-1, nan, 0}, {math.MaxInt, nan, 0}, {math.MaxInt, tiny, 0}, {math.MaxInt, below1, mostParted - 1},
	} {
		if n := ratio.Part(c.n, c.part); n != c.want {
			t.Errorf("Part(%d, %v) = %d, want %d", c.n, c.part, n, c.want)
		}
	}
}

func TestPartIsTheProductRoundedDown(t *testing.T) {
	check := func(n int, part float64) {
		t.Helper()
		if m, want := ratio.Part(n, part), wantPart(n, part); m != want {
			t.Fatalf("Part(%d, %v) = %d, want %d", n, part, m, want)
		}
	}
	for _, n := range numbers() {
		for _, part := range parts() {
			check(n, part)
		}
	}
	r := rand.New(rand.NewSource(1))
	for range 200000 {
		check(anyNumber(r), anyPart(r))
	}
}

// P5.2: Times.

func TestTimes(t *testing.T) {
	for _, c := range []struct {
		lease         int
		renew, rebind float64
		first, second int
	}{
		{100, 0.5, 0.875, 50, 87}, {7, 0.5, 0.875, 3, 6}, {3600, 0.5, 0.875, 1800, 3150}, {1, 0.5, 0.875, 0, 0}, {100, 0, 0, 0, 0},
		// The second one would be below the first one.
		{100, 0.9, 0.1, 90, 90}, {100, 1, 0, 100, 100}, {100, 0.5, minusZero, 50, 50}, {100, 0.5, -1, 50, 50},
		{100, 0.5, nan, 50, 50}, {100, infinite, nan, 100, 100}, {100, infinite, -infinite, 100, 100}, {3, 0.7, 0.6, 2, 2}, {10, 0.9, 0.8, 9, 9},
		// The second one is the same, or just above.
		{100, 0.5, 0.5, 50, 50}, {100, 0.5, 0.509, 50, 50}, {100, 0.5, 0.51, 50, 51}, {100, 0.509, 0.5, 50, 50},
		// Special parts.
		{100, nan, 0.875, 0, 87}, {100, nan, nan, 0, 0}, {100, -1, 0.5, 0, 50}, {100, minusZero, tiny, 0, 0}, {100, tiny, below1, 0, 99},
		{100, below1, above1, 99, 100}, {100, above1, infinite, 100, 100}, {100, -infinite, infinite, 0, 100}, {100, 2, 3, 100, 100},
		// Leases at their edges.
		{0, 0.5, 0.875, 0, 0}, {0, infinite, infinite, 0, 0}, {-1, 0.5, 0.875, 0, 0}, {-100, -0.5, 2, 0, 0}, {1, below1, 1, 0, 1}, {math.MinInt, 1, 1, 0, 0},
		{mostParted, 0.5, 1, mostParted / 2, mostParted}, {mostParted + 1, 0.5, 1, mostParted / 2, mostParted}, {math.MaxInt, 1, 0.5, mostParted, mostParted},
	} {
		first, second := ratio.Times(c.lease, c.renew, c.rebind)
		if first != c.first || second != c.second {
			t.Errorf("Times(%d, %v, %v) = %d, %d, want %d, %d", c.lease, c.renew, c.rebind, first, second, c.first, c.second)
		}
	}
}

func TestTimesAreParts(t *testing.T) {
	check := func(lease int, renew, rebind float64) {
		t.Helper()
		first, second := ratio.Times(lease, renew, rebind)
		want, late := wantPart(lease, renew), wantPart(lease, rebind)
		if late < want {
			late = want
		}
		if first != want || second != late {
			t.Fatalf("Times(%d, %v, %v) = %d, %d, want %d, %d", lease, renew, rebind, first, second, want, late)
		}
	}
	for _, n := range numbers() {
		for _, renew := range parts() {
			for _, rebind := range parts() {
				check(n, renew, rebind)
			}
		}
	}
	r := rand.New(rand.NewSource(2))
	for range 100000 {
		check(anyNumber(r), anyPart(r), anyPart(r))
	}
}

// P5.3: Share.

func TestShare(t *testing.T) {
	for _, c := range []struct {
		mine, other int
		part        float64
		want        int
	}{
		{10, 0, 0.5, 5}, {8, 2, 0.5, 3}, {9, 0, 0.5, 4}, {7, 2, 0.5, 2}, {5, 5, 0.5, 0}, {100, 0, 0.3, 30}, {60, 40, 0.7, 30},
		// The other one has its part, or more.
		{2, 8, 0.5, 0}, {5, 6, 0.5, 0}, {10, 10, 0, 0}, {0, 10, 0.5, 0}, {0, 10, 1, 0}, {10, 10, 0.25, 0}, {1, mostShared, 0.5, 0},
		// All of mine at most.
		{3, 0, 2, 3}, {3, 5, 1, 3}, {3, 5, infinite, 3}, {1, 100, above1, 1}, {10, 10, below1, 9},
		// Special parts.
		{10, 0, nan, 0}, {10, 5, nan, 0}, {10, 0, minusZero, 0}, {10, 0, -0.5, 0}, {10, 5, -infinite, 0}, {10, 0, tiny, 0}, {10, 5, -1, 0},
		// Numbers at their edges: as 0, or as 2^30.
		{0, 0, 0.5, 0}, {0, 0, infinite, 0}, {0, 0, nan, 0}, {-1, 0, 1, 0}, {0, -1, 1, 0}, {-5, -5, 1, 0}, {-5, 10, 1, 0}, {-5, 10, 0.9, 0},
		{10, -5, 0.5, 5}, {10, -1, 1, 10}, {10, math.MinInt, 0.5, 5}, {math.MinInt, 10, 1, 0}, {math.MinInt, math.MinInt, 0.5, 0},
		{mostShared - 1, 0, 1, mostShared - 1}, {mostShared, 0, 1, mostShared}, {mostShared + 1, 0, 1, mostShared}, {math.MaxInt, 0, 1, mostShared},
		{mostShared, mostShared, 0.75, mostShared / 2}, {mostShared + 1, mostShared, 0.75, mostShared / 2}, {mostShared, mostShared + 1, 0.75, mostShared / 2},
		{mostShared, mostShared - 1, 0.5, 0}, {mostShared, mostShared - 2, 0.5, 1}, {mostShared + 2, mostShared, 0.5, 0},
		{math.MaxInt, mostShared, 0.75, mostShared / 2}, {mostShared, math.MaxInt, 0.75, mostShared / 2},
		{math.MaxInt, math.MaxInt, 0.5, 0}, {math.MaxInt, math.MaxInt, 0.75, mostShared / 2}, {math.MaxInt, math.MaxInt, 1, mostShared},
		{math.MaxInt, math.MinInt, 0.5, mostShared / 2}, {math.MinInt, math.MaxInt, 1, 0},
	} {
		if n := ratio.Share(c.mine, c.other, c.part); n != c.want {
			t.Errorf("Share(%d, %d, %v) = %d, want %d", c.mine, c.other, c.part, n, c.want)
		}
	}
}

func TestShareIsWhatTheOtherLacks(t *testing.T) {
	check := func(mine, other int, part float64) {
		t.Helper()
		if n, want := ratio.Share(mine, other, part), wantShare(mine, other, part); n != want {
			t.Fatalf("Share(%d, %d, %v) = %d, want %d", mine, other, part, n, want)
		}
	}
	for _, mine := range numbers() {
		for _, other := range numbers() {
			for _, part := range parts() {
				check(mine, other, part)
			}
		}
	}
	r := rand.New(rand.NewSource(3))
	for range 100000 {
		check(anyNumber(r), anyNumber(r), anyPart(r))
	}
}

// P5.4: Uneven.

func TestUneven(t *testing.T) {
	third := float64(1) / 3
	for _, c := range []struct {
		mine, other int
		part        float64
		want        float64
	}{
		{5, 5, 0.5, 0}, {4, 0, 0.25, 0.25}, {0, 4, 0.25, 0.75}, {3, 1, 0.5, 0.25}, {1, 3, 0.5, 0.25}, {2, 1, 0, third}, {2, 1, third, 0}, {6, 2, 0.25, 0},
		// At most 1.
		{4, 0, 1, 1}, {0, 4, 0, 1}, {0, 4, minusZero, 1}, {4, 0, 2, 1}, {4, 0, above1, 1}, {4, 0, below1, below1}, {0, 4, -tiny, 1}, {0, 4, -1, 1},
		{5, 5, 1.25, 0.75}, {5, 5, 1.5, 1}, {5, 5, 1.75, 1}, {5, 5, -0.25, 0.75}, {5, 5, -0.5, 1}, {5, 5, -0.75, 1}, {0, 4, 2, 1}, {0, 4, 3, 1}, {0, 4, 1.5, 0.5},
		{5, 5, infinite, 1}, {5, 5, -infinite, 1}, {0, 5, infinite, 1}, {5, 0, -infinite, 1}, {5, 5, math.MaxFloat64, 1}, {5, 5, -math.MaxFloat64, 1},
		// Parts that are 0, or nearly.
		{4, 0, 0, 0}, {4, 0, minusZero, 0}, {4, 0, tiny, tiny}, {4, 0, -tiny, tiny}, {5, 5, tiny, 0.5}, {5, 5, minusZero, 0.5},
		// NaN, and both 0.
		{1, 1, nan, 1}, {1, 0, nan, 1}, {0, 1, nan, 1}, {1, 1, -nan, 1}, {mostShared, 0, nan, 1}, {-1, 1, nan, 1},
		{0, 0, nan, 0}, {0, 0, 0.5, 0}, {0, 0, infinite, 0}, {0, 0, -infinite, 0}, {0, 0, -1, 0}, {0, 0, 1, 0},
		{-1, 0, nan, 0}, {0, -1, nan, 0}, {-7, -7, nan, 0}, {-7, 7, nan, 1}, {-7, -7, 0.5, 0}, {math.MinInt, math.MinInt, 1, 0}, {-7, 0, infinite, 0},
		// Numbers at their edges: as 0, or as 2^30.
		{-1, 4, 0.25, 0.75}, {4, -4, 0.25, 0.25}, {4, math.MinInt, 0.25, 0.25}, {math.MinInt, 4, 0.25, 0.75},
		{mostShared, mostShared, 0.5, 0}, {mostShared + 1, mostShared, 0.5, 0}, {mostShared, mostShared + 1, 0.5, 0}, {math.MaxInt, mostShared, 0.5, 0},
		{math.MaxInt, math.MaxInt, 0.5, 0}, {math.MaxInt, 0, 0.25, 0.25}, {0, math.MaxInt, 0.25, 0.75}, {math.MaxInt, math.MinInt, 0.25, 0.25},
		{3 * mostShared, mostShared, 0.5, 0}, {mostShared / 2, 3 * mostShared, 0.5, float64(2)/3 - 0.5},
		{mostShared - 1, mostShared, 0, float64(mostShared) / (2*mostShared - 1)},
		{mostShared - 1, mostShared + 1, 0, float64(mostShared) / (2*mostShared - 1)},
	} {
		x := ratio.Uneven(c.mine, c.other, c.part)
		if x != c.want || math.Signbit(x) {
			t.Errorf("Uneven(%d, %d, %v) = %v, want %v", c.mine, c.other, c.part, x, c.want)
		}
	}
}

func TestUnevenIsTheDifferenceOfFloats(t *testing.T) {
	check := func(mine, other int, part float64) {
		t.Helper()
		x, want := ratio.Uneven(mine, other, part), wantUneven(mine, other, part)
		if x != want || math.Signbit(x) {
			t.Fatalf("Uneven(%d, %d, %v) = %v, want %v", mine, other, part, x, want)
		}
	}
	for _, mine := range numbers() {
		for _, other := range numbers() {
			for _, part := range parts() {
				check(mine, other, part)
			}
		}
	}
	r := rand.New(rand.NewSource(4))
	for range 100000 {
		check(anyNumber(r), anyNumber(r), anyPart(r))
	}
}

// P5.5: Part does not decrease, and is from 0 to n; a transfer leaves the
// other one with at most its part.

func TestPartDoesNotDecrease(t *testing.T) {
	check := func(n int, increasing []float64) {
		t.Helper()
		before := 0
		for _, part := range increasing {
			now := ratio.Part(n, part)
			if now < before {
				t.Fatalf("Part(%d, %v) = %d, but %d for a part before", n, part, now, before)
			}
			before = now
		}
	}
	for _, n := range numbers() {
		check(n, increasingParts())
	}
	r := rand.New(rand.NewSource(5))
	for range 2000 {
		n := anyNumber(r)
		var list []float64
		for range 100 {
			if part := anyPart(r); part == part {
				list = append(list, part)
			}
		}
		// Those around the parts at which the product becomes the next integer.
		for range 20 {
			at := float64(r.Intn(1000)) / float64(max(1, min(n, mostParted)))
			list = append(list, math.Nextafter(at, -1), at, math.Nextafter(at, 2))
		}
		slices.Sort(list)
		check(n, list)
	}
}

func TestPartIsFromZeroToTheNumber(t *testing.T) {
	check := func(n int, part float64) {
		t.Helper()
		if m := ratio.Part(n, part); m < 0 || m > max(n, 0) || m > mostParted {
			t.Fatalf("Part(%d, %v) = %d", n, part, m)
		}
	}
	for _, n := range numbers() {
		for _, part := range parts() {
			check(n, part)
		}
	}
	for n := -300; n < 5000; n++ {
		for _, part := range []float64{math.Nextafter(below1, 0), below1, 1, above1} {
			check(n, part)
		}
	}
	r := rand.New(rand.NewSource(6))
	for range 100000 {
		check(anyNumber(r), anyPart(r))
	}
}

func TestTransferLeavesTheOtherAtMostItsPart(t *testing.T) {
	check := func(mine, other int, part float64) {
		t.Helper()
		share := ratio.Share(mine, other, part)
		if share < 0 || share > max(mine, 0) {
			t.Fatalf("Share(%d, %d, %v) = %d", mine, other, part, share)
		}
		mine, other = counted(mine), counted(other)
		its := ratio.Part(mine+other, part)
		if other <= its && other+share > its {
			t.Fatalf("Share(%d, %d, %v) = %d: the other one has more than %d then", mine, other, part, share, its)
		}
		if other >= its && share != 0 {
			t.Fatalf("Share(%d, %d, %v) = %d: the other one has its part", mine, other, part, share)
		}
		// Once it is transferred, nothing is left to be.
		if again := ratio.Share(mine-share, other+share, part); other+share <= mostShared && again != 0 {
			t.Fatalf("Share(%d, %d, %v) = %d, and %d more after it", mine, other, part, share, again)
		}
	}
	for _, mine := range numbers() {
		for _, other := range numbers() {
			for _, part := range parts() {
				check(mine, other, part)
			}
		}
	}
	for mine := range 40 {
		for other := range 40 {
			for i := range 41 {
				check(mine, other, float64(i)/40)
			}
		}
	}
	r := rand.New(rand.NewSource(7))
	for range 100000 {
		check(anyNumber(r), anyNumber(r), anyPart(r))
	}
}

// R4: the same arguments, the same results, whatever was called before.

func TestNothingIsKept(t *testing.T) {
	for range 2 {
		first, second := ratio.Times(100, 0.9, 0.1)
		if n, m, x := ratio.Part(7, 0.5), ratio.Share(10, 0, 0.5), ratio.Uneven(4, 0, 0.25); n != 3 || first != 90 || second != 90 || m != 5 || x != 0.25 {
			t.Error(n, first, second, m, x)
		}
		ratio.Part(math.MaxInt, nan)
		ratio.Times(math.MinInt, infinite, nan)
		ratio.Share(math.MaxInt, math.MaxInt, nan)
		ratio.Uneven(0, 0, nan)
	}
}

func FuzzAll(f *testing.F) {
	for _, n := range numbers() {
		f.Add(n, 3, 0.5, 0.875)
	}
	for _, part := range parts() {
		f.Add(7, 2, part, below1)
	}
	f.Fuzz(func(t *testing.T, n, m int, part, other float64) {
		if x, want := ratio.Part(n, part), wantPart(n, part); x != want {
			t.Errorf("Part(%d, %v) = %d, want %d", n, part, x, want)
		}
		if a, b := ratio.Times(n, part, other); a != wantPart(n, part) || b != max(a, wantPart(n, other)) {
			t.Errorf("Times(%d, %v, %v) = %d, %d", n, part, other, a, b)
		}
		if x, want := ratio.Share(n, m, part), wantShare(n, m, part); x != want {
			t.Errorf("Share(%d, %d, %v) = %d, want %d", n, m, part, x, want)
		}
		if x, want := ratio.Uneven(n, m, part), wantUneven(n, m, part); x != want {
			t.Errorf("Uneven(%d, %d, %v) = %v, want %v", n, m, part, x, want)
		}
	})
}
