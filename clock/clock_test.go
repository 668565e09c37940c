package clock_test

import (
	"math"
	"math/big"
	"math/rand"
	"slices"
	"testing"

	"lessor/clock"
)

// top is the last moment, and the longest span. It is written as a number here,
// as the document has it.
const top = 1 << 40

// numbers are those at the edges of moments, of spans, of guards and of int, and
// ordinary ones, in increasing order.
func numbers() []int {
	return []int{
		math.MinInt, math.MinInt + 1, math.MinInt + top, -1 << 62, -1<<62 + 1, -2*top - 1, -2 * top,
		-top - 2, -top - 1, -top, -top + 1, -top + 2, -top / 2, -1 << 32, -1 << 31, -1000, -9, -5, -3, -2, -1,
		0, 1, 2, 3, 4, 5, 9, 10, 1000, 1<<31 - 1, 1 << 31, 1<<32 - 1, 1 << 32, top/2 - 1, top / 2, top/2 + 1,
		top - 1000, top - 2, top - 1, top, top + 1, top + 2, 2*top - 1, 2 * top, 2*top + 1,
		1<<62 - 1, 1 << 62, math.MaxInt - top, math.MaxInt - 1, math.MaxInt,
	}
}

// anyNumber is a random number: of any size, or within what moments are, or
// close to one of their edges.
func anyNumber(r *rand.Rand) int {
	switch r.Intn(8) {
	case 0:
		return int(r.Uint64())
	case 1:
		return numbers()[r.Intn(len(numbers()))]
	case 2:
		return r.Intn(40) - 20
	case 3:
		return top - r.Intn(40) + 20
	case 4:
		return -top - r.Intn(40) + 20
	case 5:
		return r.Intn(4*top) - 2*top
	}
	return r.Intn(top + 1)
}

// increasing are random numbers, beside those of numbers, in increasing order.
func increasing(r *rand.Rand, more int) []int {
	l := numbers()
	for range more {
		l = append(l, anyNumber(r))
	}
	slices.Sort(l)
	return l
}

// limited is n, or what it is nearest to of least and most. It calculates in
// package big, which has no overflow.
func limited(n *big.Int, least, most int64) *big.Int {
	switch low, high := big.NewInt(least), big.NewInt(most); {
	case n.Cmp(low) < 0:
		return low
	case n.Cmp(high) > 0:
		return high
	}
	return n
}

func moment(n int) *big.Int {
	return limited(big.NewInt(int64(n)), 0, top)
}

// wantAdd, wantLeft and wantPast are Add, Left and Past by P7.1.

func wantAdd(t, d int) int {
	span := limited(big.NewInt(int64(d)), -top, top)
	sum := new(big.Int).Add(moment(t), span)
	return int(limited(sum, 0, top).Int64())
}

func wantLeft(now, until int) int {
	left := new(big.Int).Sub(moment(until), moment(now))
	return int(limited(left, 0, math.MaxInt64).Int64())
}

func wantPast(now, until, guard int) bool {
	spare := limited(big.NewInt(int64(guard)), 0, top)
	sum := new(big.Int).Add(moment(until), spare)
	return moment(now).Cmp(sum) > 0
}

// P7.1

// sums are arguments of Add and of At, and what they return.
func sums() []struct{ t, d, want int } {
	return []struct{ t, d, want int }{
		{5, -9, 0}, {5, 3, 8}, {5, -3, 2}, {5, -5, 0}, {5, -4, 1}, {5, 0, 5}, {0, 0, 0}, {1000, 3600, 4600},
		// Moments at their edges, and beyond them: limited before d is added.
		{-1, 0, 0}, {0, 1, 1}, {1, 0, 1}, {-1, 1, 1}, {-1, -1, 0}, {-5, 3, 3}, {-top, top, top}, {1, -1, 0}, {0, -1, 0}, {1, -2, 0},
		{top - 1, 0, top - 1}, {top - 1, 1, top}, {top - 1, 2, top}, {top, 0, top}, {top, 1, top}, {top, -1, top - 1},
		{top + 1, 0, top}, {top + 1, -1, top - 1}, {top + 1, -2, top - 2}, {top + 1000, -1000, top - 1000}, {top + 1, 1, top},
		// Spans at their edges, and beyond them.
		{0, top - 1, top - 1}, {0, top, top}, {0, top + 1, top}, {1, top - 1, top}, {1, top - 2, top - 1}, {7, top, top}, {top, top, top},
		{top, -top + 1, 1}, {top, -top, 0}, {top, -top - 1, 0}, {top - 1, -top + 1, 0}, {top - 1, -top + 2, 1}, {7, -top, 0}, {0, -top, 0},
		{top + 1, -top, 0}, {top + 1, -top - 1, 0}, {-1, top, top}, {-1, top + 1, top}, {-1, top - 1, top - 1},
		// The least and the greatest int.
		{math.MinInt, 0, 0}, {math.MinInt, 7, 7}, {math.MinInt, -7, 0}, {math.MinInt, top, top},
		{math.MaxInt, 0, top}, {math.MaxInt, 7, top}, {math.MaxInt, -7, top - 7}, {math.MaxInt, -top, 0},
		{0, math.MinInt, 0}, {7, math.MinInt, 0}, {top, math.MinInt, 0}, {top + 1, math.MinInt, 0}, {top, -1 << 62, 0},
		{0, math.MaxInt, top}, {7, math.MaxInt, top}, {top, math.MaxInt, top}, {-1, math.MaxInt, top}, {top, 1 << 62, top},
		{math.MinInt, math.MinInt, 0}, {math.MinInt, math.MaxInt, top}, {math.MaxInt, math.MinInt, 0}, {math.MaxInt, math.MaxInt, top},
		{math.MinInt + 1, math.MaxInt - 1, top}, {math.MaxInt - 1, math.MinInt + 1, 0},
	}
}

func TestAdd(t *testing.T) {
	for _, c := range sums() {
		if got := clock.Add(c.t, c.d); got != c.want {
			t.Errorf("Add(%d, %d) = %d, want %d", c.t, c.d, got, c.want)
		}
	}
}

func TestAt(t *testing.T) {
	if got := clock.At(10, -3); got != 7 {
		t.Errorf("At(10, -3) = %d, want 7", got)
	}
	for _, c := range sums() {
		if got := clock.At(c.t, c.d); got != c.want {
			t.Errorf("At(%d, %d) = %d, want %d", c.t, c.d, got, c.want)
		}
	}
}

func TestLeft(t *testing.T) {
	for _, c := range []struct{ now, until, want int }{
		// Behind now, at it, and before it.
		{5, 9, 4}, {5, 6, 1}, {5, 5, 0}, {5, 4, 0}, {9, 5, 0}, {0, 5, 5}, {1000, 4600, 3600},
		// Moments at their edges, and beyond them.
		{0, 0, 0}, {-1, 0, 0}, {0, -1, 0}, {-1, -1, 0}, {-5, -1, 0}, {-1, 1, 1}, {-1, 5, 5}, {-5, -3, 0}, {0, 1, 1}, {1, 0, 0}, {1, 1, 0}, {-top, 1, 1},
		{0, top, top}, {0, top - 1, top - 1}, {0, top + 1, top}, {1, top, top - 1}, {1, top + 1, top - 1}, {-1, top, top}, {-5, top + 9, top},
		{top - 1, top, 1}, {top - 1, top + 1, 1}, {top - 1, top - 1, 0}, {top, top - 1, 0}, {top, top, 0}, {top, top + 1, 0},
		{top + 1, top, 0}, {top + 1, top + 9, 0}, {top + 1, 0, 0}, {top, 0, 0}, {top, -1, 0}, {top, -top, 0}, {2 * top, 5 * top, 0},
		// The least and the greatest int.
		{math.MinInt, 0, 0}, {math.MinInt, -7, 0}, {math.MinInt, 7, 7}, {math.MinInt, top, top}, {math.MinInt, top + 1, top},
		{math.MaxInt, 0, 0}, {math.MaxInt, 7, 0}, {math.MaxInt, top, 0}, {math.MaxInt, top + 1, 0},
		{0, math.MinInt, 0}, {-7, math.MinInt, 0}, {7, math.MinInt, 0}, {top, math.MinInt, 0},
		{0, math.MaxInt, top}, {-7, math.MaxInt, top}, {7, math.MaxInt, top - 7}, {top, math.MaxInt, 0}, {top - 1, math.MaxInt, 1},
		{math.MinInt, math.MinInt, 0}, {math.MinInt, math.MaxInt, top}, {math.MaxInt, math.MinInt, 0}, {math.MaxInt, math.MaxInt, 0},
	} {
		if got := clock.Left(c.now, c.until); got != c.want {
			t.Errorf("Left(%d, %d) = %d, want %d", c.now, c.until, got, c.want)
		}
	}
}

func TestPast(t *testing.T) {
	for _, c := range []struct {
		now, until, guard int
		want              bool
	}{
		// At the sum, one above it, and one below it.
		{9, 5, 4, false}, {10, 5, 4, true}, {8, 5, 4, false}, {5, 5, 0, false}, {6, 5, 0, true}, {4, 5, 0, false},
		{0, 0, 0, false}, {1, 0, 0, true}, {1, 0, 1, false}, {2, 0, 1, true}, {10, 10, 0, false}, {11, 10, 0, true},
		// A guard at its edges, and beyond them.
		{6, 5, -1, true}, {5, 5, -1, false}, {4, 5, -3, false}, {6, 5, -3, true}, {5, 5, -top, false}, {6, 5, -top, true},
		{top, 0, top, false}, {top, 0, top - 1, true}, {top, 0, top + 1, false}, {top + 1, 0, top, false}, {top + 2, 0, top + 1, false},
		{top, -1, top, false}, {top, 1, top - 2, true}, {top, 1, top - 1, false}, {top - 1, 0, top - 1, false}, {top - 1, 0, top - 2, true},
		// Moments at their edges, and beyond them.
		{-1, 0, 0, false}, {-1, -1, 0, false}, {-1, -5, 0, false}, {0, -1, 0, false}, {1, -1, 0, true}, {1, -1, 1, false}, {2, -1, 1, true},
		{1, -5, 0, true}, {-1, -5, -1, false}, {0, 1, 0, false}, {1, 1, 0, false}, {2, 1, 0, true}, {-1, 1, 0, false},
		{top, top - 1, 0, true}, {top, top - 1, 1, false}, {top + 1, top - 1, 0, true}, {top + 1, top - 1, 1, false}, {top - 1, top - 1, 0, false},
		{top, top, 0, false}, {top + 1, top, 0, false}, {top + 5, top, 0, false}, {top + 9, top + 1, 0, false}, {top, top + 1, 0, false}, {top, top, -1, false},
		// Both at their bounds: the sum is above the last moment.
		{top, top, top, false}, {top + 1, top, top, false}, {2 * top, top, top, false}, {2*top + 1, top, top, false}, {top - 1, top, top, false},
		{3 * top, top + 1, top + 1, false}, {top, top, 1, false}, {top, 1, top, false}, {top, top / 2, top / 2, false}, {top, top / 2, top/2 - 1, true},
		// The least and the greatest int.
		{math.MinInt, 0, 0, false}, {math.MinInt, -7, -7, false}, {math.MaxInt, 0, 0, true}, {math.MaxInt, top - 1, 0, true}, {math.MaxInt, top, 0, false},
		{0, math.MinInt, 0, false}, {1, math.MinInt, 0, true}, {7, math.MinInt, 7, false}, {8, math.MinInt, 7, true},
		{0, math.MaxInt, 0, false}, {top, math.MaxInt, 0, false}, {top + 1, math.MaxInt, 7, false},
		{0, 0, math.MinInt, false}, {1, 0, math.MinInt, true}, {5, 5, math.MinInt, false}, {6, 5, math.MinInt, true}, {top, top - 1, math.MinInt, true},
		{0, 0, math.MaxInt, false}, {top, 0, math.MaxInt, false}, {top, top, math.MaxInt, false}, {top + 1, -1, math.MaxInt, false},
		{math.MinInt, math.MinInt, math.MinInt, false}, {math.MinInt, math.MinInt, math.MaxInt, false},
		{math.MinInt, math.MaxInt, math.MinInt, false}, {math.MinInt, math.MaxInt, math.MaxInt, false},
		{math.MaxInt, math.MinInt, math.MinInt, true}, {math.MaxInt, math.MinInt, math.MaxInt, false},
		{math.MaxInt, math.MaxInt, math.MinInt, false}, {math.MaxInt, math.MaxInt, math.MaxInt, false},
	} {
		if got := clock.Past(c.now, c.until, c.guard); got != c.want {
			t.Errorf("Past(%d, %d, %d) = %t, want %t", c.now, c.until, c.guard, got, c.want)
		}
	}
}

// check holds each call of any three numbers against the document's words.
func check(t *testing.T, a, b, c int) {
	t.Helper()
	if got, want := clock.Add(a, b), wantAdd(a, b); got != want {
		t.Fatalf("Add(%d, %d) = %d, want %d", a, b, got, want)
	}
	if got, want := clock.At(a, b), wantAdd(a, b); got != want {
		t.Fatalf("At(%d, %d) = %d, want %d", a, b, got, want)
	}
	if got, want := clock.Left(a, b), wantLeft(a, b); got != want {
		t.Fatalf("Left(%d, %d) = %d, want %d", a, b, got, want)
	}
	if got, want := clock.Past(a, b, c), wantPast(a, b, c); got != want {
		t.Fatalf("Past(%d, %d, %d) = %t, want %t", a, b, c, got, want)
	}
}

func TestAllEdges(t *testing.T) {
	for _, a := range numbers() {
		for _, b := range numbers() {
			for _, c := range numbers() {
				check(t, a, b, c)
			}
		}
	}
}

func TestSmallNumbers(t *testing.T) {
	for a := -4; a < 12; a++ {
		for b := -12; b < 12; b++ {
			for c := -4; c < 12; c++ {
				check(t, a, b, c)
				check(t, top-a, b, c)
				check(t, top-a, top-b, c)
				check(t, top-a, b, top-c)
			}
		}
	}
}

func TestRandomNumbers(t *testing.T) {
	r := rand.New(rand.NewSource(1))
	for range 100000 {
		check(t, anyNumber(r), anyNumber(r), anyNumber(r))
	}
}

// P7.2

func TestResultsAreMoments(t *testing.T) {
	for _, a := range numbers() {
		for _, b := range numbers() {
			for _, got := range []int{clock.Add(a, b), clock.At(a, b), clock.Left(a, b)} {
				if got < 0 || got > top {
					t.Fatalf("%d of %d and %d", got, a, b)
				}
			}
		}
	}
}

func TestWhatIsLaterRemainsLaterOrEqual(t *testing.T) {
	l := increasing(rand.New(rand.NewSource(2)), 300)
	for i := range len(l) - 1 {
		early, late := l[i], l[i+1]
		for _, n := range l {
			if a, b := clock.Add(early, n), clock.Add(late, n); a > b {
				t.Fatalf("Add(%d, %d) = %d, and Add(%d, %d) = %d", early, n, a, late, n, b)
			}
			if a, b := clock.Add(n, early), clock.Add(n, late); a > b {
				t.Fatalf("Add(%d, %d) = %d, and Add(%d, %d) = %d", n, early, a, n, late, b)
			}
			if a, b := clock.At(early, n), clock.At(late, n); a > b {
				t.Fatalf("At(%d, %d) = %d, and At(%d, %d) = %d", early, n, a, late, n, b)
			}
			if a, b := clock.Left(n, early), clock.Left(n, late); a > b {
				t.Fatalf("Left(%d, %d) = %d, and Left(%d, %d) = %d", n, early, a, n, late, b)
			}
			if a, b := clock.Left(early, n), clock.Left(late, n); a < b {
				t.Fatalf("Left(%d, %d) = %d, and Left(%d, %d) = %d", early, n, a, late, n, b)
			}
		}
	}
}

func TestWhatIsPastRemainsPast(t *testing.T) {
	l := increasing(rand.New(rand.NewSource(3)), 60)
	for i := range len(l) - 1 {
		less, more := l[i], l[i+1]
		for _, a := range l {
			for _, b := range l {
				if clock.Past(less, a, b) && !clock.Past(more, a, b) {
					t.Fatalf("Past(%d, %d, %d), but not Past(%d, %d, %d)", less, a, b, more, a, b)
				}
				if clock.Past(a, more, b) && !clock.Past(a, less, b) {
					t.Fatalf("Past(%d, %d, %d), but not Past(%d, %d, %d)", a, more, b, a, less, b)
				}
				if clock.Past(a, b, more) && !clock.Past(a, b, less) {
					t.Fatalf("Past(%d, %d, %d), but not Past(%d, %d, %d)", a, b, more, a, b, less)
				}
			}
		}
	}
}

func TestWhatIsDeferredIsNotPastBefore(t *testing.T) {
	check := func(now, from, by, guard int) {
		t.Helper()
		until := clock.Add(from, by)
		is := clock.Past(now, until, guard)
		if is && now <= until {
			t.Fatalf("Past(%d, %d, %d), where Add(%d, %d) = %d", now, until, guard, from, by, until)
		}
		if is && by >= 0 && !clock.Past(now, from, guard) {
			t.Fatalf("Past(%d, %d, %d), but %d was not past before it was deferred by %d", now, until, guard, from, by)
		}
		if is && clock.Left(now, until) != 0 {
			t.Fatalf("Past(%d, %d, %d), but Left is %d", now, until, guard, clock.Left(now, until))
		}
	}
	for _, from := range numbers() {
		for _, by := range numbers() {
			until := clock.Add(from, by)
			for _, guard := range []int{math.MinInt, -1, 0, 1, 9, top, top + 1, math.MaxInt} {
				for _, now := range append(numbers(), until-1, until, until+1, until+2) {
					check(now, from, by, guard)
				}
			}
		}
	}
	r := rand.New(rand.NewSource(4))
	for range 100000 {
		check(anyNumber(r), anyNumber(r), anyNumber(r), anyNumber(r))
	}
}

func TestWhatIsDeferredIsPastRightAfter(t *testing.T) {
	r := rand.New(rand.NewSource(5))
	for range 100000 {
		from := r.Intn(top)
		by := r.Intn(top - from)
		guard := r.Intn(top - from - by)
		until := clock.Add(from, by)
		if last := from + by + guard; clock.Past(last, until, guard) || !clock.Past(last+1, until, guard) {
			t.Fatalf("%d, deferred by %d: Past does not begin after %d with the guard %d", from, by, last, guard)
		}
		if left := clock.Left(from, until); left != by {
			t.Fatalf("%d, deferred by %d: Left is %d", from, by, left)
		}
	}
}

// R4: the same arguments, the same results, whatever was called before.

func TestNothingIsKept(t *testing.T) {
	for range 2 {
		if a, b, c, d := clock.Add(5, -9), clock.Left(5, 9), clock.Past(9, 5, 4), clock.At(10, -3); a != 0 || b != 4 || c || d != 7 {
			t.Error(a, b, c, d)
		}
		clock.Add(math.MaxInt, math.MaxInt)
		clock.Left(math.MinInt, math.MaxInt)
		clock.Past(math.MaxInt, math.MinInt, math.MinInt)
		clock.At(math.MinInt, math.MinInt)
	}
}

func FuzzClock(f *testing.F) {
	for _, n := range numbers() {
		f.Add(n, 5, 4)
		f.Add(9, n, 4)
		f.Add(9, 5, n)
	}
	f.Fuzz(check)
}
