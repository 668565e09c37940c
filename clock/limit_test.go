package clock

import (
	"math"
	"testing"

	"lessor/api"
)

// The function that limits numbers is not exported: hence this file is of the
// package itself. All other tests stand in clock_test.go.

// signed checks limit for a signed type, of the given least and greatest number.
func signed[T ~int | ~int8 | ~int16 | ~int32 | ~int64](t *testing.T, lowest, highest T) {
	t.Helper()
	unsigned(t, lowest, highest)
	for _, c := range []struct{ n, least, most, want T }{
		{-1, 0, 9, 0}, {lowest, 0, 9, 0}, {lowest, -9, 9, -9}, {-10, -9, 9, -9}, {-9, -9, 9, -9}, {-8, -9, 9, -8},
		{highest, -9, -5, -5}, {-4, -9, -5, -5}, {-5, -9, -5, -5}, {lowest, lowest + 1, -5, lowest + 1},
		{lowest + 2, lowest, lowest + 1, lowest + 1},
	} {
		if got := limit(c.n, c.least, c.most); got != c.want {
			t.Errorf("limit(%d, %d, %d) = %d of type %T, want %d", c.n, c.least, c.most, got, got, c.want)
		}
	}
}

// unsigned checks limit for numbers of at least 0, and for the type's own ends.
func unsigned[T integer](t *testing.T, lowest, highest T) {
	t.Helper()
	for _, c := range []struct{ n, least, most, want T }{
		{0, 5, 9, 5}, {4, 5, 9, 5}, {5, 5, 9, 5}, {6, 5, 9, 6}, {8, 5, 9, 8}, {9, 5, 9, 9}, {10, 5, 9, 9},
		{highest, 5, 9, 9}, {lowest, 5, 9, 5}, {4, 5, 5, 5}, {5, 5, 5, 5}, {6, 5, 5, 5},
		{lowest, lowest, highest, lowest}, {highest, lowest, highest, highest}, {7, lowest, highest, 7},
		{highest, lowest, highest - 1, highest - 1}, {highest - 1, lowest, highest, highest - 1},
		{highest - 2, highest - 1, highest, highest - 1}, {lowest, highest, highest, highest},
		{highest, lowest, lowest, lowest}, {7, lowest, lowest, lowest}, {7, highest, highest, highest},
	} {
		if got := limit(c.n, c.least, c.most); got != c.want {
			t.Errorf("limit(%d, %d, %d) = %d of type %T, want %d", c.n, c.least, c.most, got, got, c.want)
		}
	}
}

func TestLimitOfAllIntegerTypes(t *testing.T) {
	signed[int](t, math.MinInt, math.MaxInt)
	signed[int8](t, math.MinInt8, math.MaxInt8)
	signed[int16](t, math.MinInt16, math.MaxInt16)
	signed[int32](t, math.MinInt32, math.MaxInt32)
	signed[int64](t, math.MinInt64, math.MaxInt64)
	signed[api.Errno](t, math.MinInt, math.MaxInt)
	unsigned[uint](t, 0, math.MaxUint)
	unsigned[uint8](t, 0, math.MaxUint8)
	unsigned[uint16](t, 0, math.MaxUint16)
	unsigned[uint32](t, 0, math.MaxUint32)
	unsigned[uint64](t, 0, math.MaxUint64)
	unsigned[uintptr](t, 0, ^uintptr(0))
	unsigned[api.Addr](t, 0, math.MaxUint32)
}

func TestLimitOfEachByte(t *testing.T) {
	for n := range 256 {
		for least := range 256 {
			for most := least; most < 256; most++ {
				want := n
				switch {
				case n < least:
					want = least
				case n > most:
					want = most
				}
				if got := limit(uint8(n), uint8(least), uint8(most)); int(got) != want {
					t.Fatalf("limit(%d, %d, %d) = %d, want %d", n, least, most, got, want)
				}
			}
		}
	}
}
