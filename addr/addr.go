// Package addr is layer 1: IPv4 addresses as text, and pools of addresses.
package addr

import (
	"cmp"
	"iter"
	"slices"
	"strconv"
	"strings"

	"lessor/api"
)

// Text is an address as text: its four bytes in decimal, separated by points.
func Text(a api.Addr) string {
	var parts [4]string
	for i := range parts {
		parts[i] = strconv.Itoa(int(a >> (24 - 8*i) & 255))
	}
	return strings.Join(parts[:], ".")
}

// Parse is the address whose Text is s.
func Parse(s string) (api.Addr, api.Errno) {
	var a api.Addr
	// Five pieces at most, so that a long text of points costs no memory.
	for _, part := range strings.SplitN(s, ".", 5) {
		n, err := strconv.ParseUint(part, 10, 8)
		if err != nil {
			return 0, api.ErrForm
		}
		a = a<<8 | api.Addr(n)
	}
	// Leading zeros, and too few or too many parts, show up here and nowhere else.
	if Text(a) != s {
		return 0, api.ErrForm
	}
	return a, api.OK
}

// Pool is the pool of exactly the addresses of the ranges of l.
func Pool(l []api.Range) ([]api.Range, api.Errno) {
	for _, r := range l {
		if r.High < r.Low {
			return nil, api.ErrArg
		}
	}
	pool := joined(sorted(l))
	if Count(pool) > api.MaxPool {
		return nil, api.ErrFull
	}
	return pool, api.OK
}

// sorted is l by increasing Low, in memory of its own.
func sorted(l []api.Range) []api.Range {
	l = slices.Clone(l)
	slices.SortFunc(l, func(a, b api.Range) int { return cmp.Compare(a.Low, b.Low) })
	return l
}

// joined is the ranges of l, which is sorted, with those made one that overlap or are adjacent.
func joined(l []api.Range) []api.Range {
	var out []api.Range
	for _, r := range l {
		if n := len(out); n > 0 && reaches(out[n-1], r.Low) {
			out[n-1].High = max(out[n-1].High, r.High)
		} else {
			out = append(out, r)
		}
	}
	return out
}

// reaches reports whether no address lies between the range r and a, which is not below it.
func reaches(r api.Range, a api.Addr) bool {
	// The difference is taken only where it can't wrap round; High+1 could.
	return a <= r.High || a-r.High == 1
}

// Count is how many addresses the pool l has.
func Count(l []api.Range) int {
	count := 0
	for n := range numbered(l) {
		count = n + 1
	}
	return count
}

// At is the address of the pool l below which it has exactly n others.
func At(l []api.Range, n int) (api.Addr, api.Errno) {
	for i, a := range numbered(l) {
		if i == n {
			return a, api.OK
		}
	}
	return 0, api.ErrNone
}

// Index is how many addresses of the pool l are below a, or -1 if a is not in it.
func Index(l []api.Range, a api.Addr) int {
	for i, b := range numbered(l) {
		if b == a {
			return i
		}
	}
	return -1
}

// numbered is the addresses of l in order, each behind its number. It ends at
// the first one that is too many for a pool: that one is enough to tell that l
// is none, and a list of wide ranges takes no longer than a pool.
func numbered(l []api.Range) iter.Seq2[int, api.Addr] {
	return func(yield func(int, api.Addr) bool) {
		n := 0
		for _, r := range l {
			// In 64 bits, as the greatest address has a next one there.
			for a := uint64(r.Low); a <= uint64(r.High); a++ {
				if n > api.MaxPool || !yield(n, api.Addr(a)) {
					return
				}
				n++
			}
		}
	}
}
