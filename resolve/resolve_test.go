package resolve_test

import (
	"math"
	"math/rand"
	"strings"
	"testing"

	"lessor/api"
	"lessor/clock"
	"lessor/lease"
	"lessor/resolve"
)

// most is the last moment. It is written as a number here, as the document has it.
const most = 1 << 40

// numbers are those at the edges of moments and of int, and ordinary ones.
func numbers() []int {
	return []int{
		math.MinInt, math.MinInt + 1, -1 << 62, -2 * most, -most - 1, -most, -most + 1, -1000, -2, -1,
		0, 1, 2, 3, 4, 5, 9, 10, 11, 50, 1000, most / 2, most - 11, most - 2, most - 1,
		most, most + 1, most + 10, 2 * most, 2*most + 1, 1 << 62, math.MaxInt - most, math.MaxInt - 1, math.MaxInt,
	}
}

// binds are those of api, and numbers that are none.
func binds() []int {
	return []int{0, 1, 2, 3, 4, 5, 6, 7, 8, -1, -2, 64, 66, 256, math.MinInt, math.MinInt + 2, math.MaxInt}
}

// states are those of api, and numbers that are none.
func states() []int {
	return []int{0, 1, 2, 3, 4, 5, 6, 7, 8, 9, 10, -1, -2, -6, 63, 64, 70, 71, 72, 262, math.MinInt, math.MinInt + 6, math.MaxInt}
}

// isHeld is whether a Bind is held: Active, Expired or Released.
func isHeld(bind int) bool { return bind == 2 || bind == 3 || bind == 4 }

// isRecovering is whether the server is, in a state: Recover, RecoverWait or
// RecoverDone.
func isRecovering(state int) bool { return state == 6 || state == 7 || state == 8 }

// nearest is the number from 0 to top that is nearest to n.
func nearest(n, top int) int {
	switch {
	case n < 0:
		return 0
	case n > top:
		return top
	}
	return n
}

// isPast is clock.Past by the words of chapter 7.
func isPast(now, until, guard int) bool {
	return nearest(now, most) > nearest(until, most)+nearest(guard, most)
}

// isRight is lease.Right by the words of chapter 11.
func isRight(l api.Lease) bool {
	for _, n := range []int{l.Until, l.Acked, l.Told, l.At, l.Ver} {
		if n < 0 || n > most {
			return false
		}
	}
	switch l.Bind {
	case 0, 1, 5:
		return l.Client == "" && l.Until == 0 && l.Acked == 0 && l.Told == 0 && l.At == 0
	case 2, 3, 4:
		return len(l.Client) >= 1 && len(l.Client) <= 32
	}
	return false
}

// bare is lease.Bare by the words of chapter 11.
func bare(l api.Lease, bind, ver int) api.Lease {
	return api.Lease{Addr: l.Addr, Bind: bind, Ver: ver}
}

// takeBy is Take by the chapter's words.
func takeBy(l api.Lease, m api.Message, state, now, guard int) (api.Lease, bool) {
	if m.Kind != 2 || m.Addr != l.Addr || !isRight(l) || m.Bind < 0 || m.Bind > 5 {
		return l, false
	}
	if isHeld(m.Bind) && (len(m.Client) < 1 || len(m.Client) > 32) {
		return l, false
	}
	over := isPast(now, l.Until, 0)
	same := l.Client == m.Client
	pot := nearest(m.Pot, most)
	result := l
	switch {
	case m.Bind == 2 && l.Bind == 5:
		return l, false
	case m.Bind == 2 && l.Bind == 2 && same:
		if pot > l.Told {
			result.Told = pot
		}
		return result, true
	case m.Bind == 2 && l.Bind == 2 && !(isRecovering(state) && over):
		return l, false
	case m.Bind == 2:
		return api.Lease{Addr: l.Addr, Bind: 2, Client: m.Client, Told: pot, Ver: l.Ver}, true
	case m.Bind == 3 && l.Bind == 2:
		if !same || !over {
			return l, false
		}
		result.Bind = 3
		return result, true
	case m.Bind == 4 && l.Bind == 2:
		if !same || l.At != 0 && !isPast(m.At, l.At, guard) {
			return l, false
		}
		result.Bind = 4
		return result, true
	case m.Bind == 3 || m.Bind == 4:
		return l, true
	case m.Bind == 5:
		return bare(l, 5, l.Ver), true
	}
	if l.Bind == 5 || l.Bind == 2 && !(isRecovering(state) && over) {
		return l, false
	}
	if m.At > l.Ver && m.At <= most {
		return bare(l, m.Bind, m.At), true
	}
	return l, l.Bind != 2
}

// ackedBy is Acked by the chapter's words.
func ackedBy(l api.Lease, m api.Message, ok, first bool) api.Lease {
	if !isRight(l) {
		return l
	}
	same := l.Client == m.Client
	if ok && m.Bind == 2 && l.Bind == 2 && same {
		if pot := nearest(m.Pot, most); pot > l.Acked {
			l.Acked = pot
		}
		return l
	}
	if ok && first && (m.Bind == 3 || m.Bind == 4) && l.Bind == m.Bind && same {
		return bare(l, 0, nearest(l.Ver+1, most))
	}
	return l
}

// update is an Update of the address 1.
func update(bind int, client string, pot, at int) api.Message {
	return api.Message{Kind: 2, Life: 1, Seen: 1, Xid: 1, Addr: 1, Bind: bind, Client: client, Pot: pot, At: at}
}

// of is a lease of the address 1 with a Bind, of a client if it is held: up to 20,
// promised here at 10.
func of(bind int, client string) api.Lease {
	if !isHeld(bind) {
		return api.Lease{Addr: 1, Bind: bind, Ver: 3}
	}
	return api.Lease{Addr: 1, Bind: bind, Client: client, Until: 20, Acked: 7, Told: 5, At: 10, Ver: 3}
}

// with is l after a change.
func with(l api.Lease, change func(l *api.Lease)) api.Lease {
	change(&l)
	return l
}

// check holds Take against what it is to answer, and the words against that, too.
func check(t *testing.T, l api.Lease, m api.Message, state, now, guard int, want api.Lease, wantIs bool) {
	t.Helper()
	if got, is := resolve.Take(l, m, state, now, guard); got != want || is != wantIs {
		t.Errorf("Take(%+v, %+v, %d, %d, %d) = %+v, %v, want %+v, %v", l, m, state, now, guard, got, is, want, wantIs)
	}
	if got, is := takeBy(l, m, state, now, guard); got != want || is != wantIs {
		t.Errorf("by the words, Take(%+v, %+v, %d, %d, %d) = %+v, %v, want %+v, %v", l, m, state, now, guard, got, is, want, wantIs)
	}
}

// refused is check for what is refused.
func refused(t *testing.T, l api.Lease, m api.Message, state, now, guard int) {
	t.Helper()
	check(t, l, m, state, now, guard, l, false)
}

// hold holds Take against the words.
func hold(t *testing.T, l api.Lease, m api.Message, state, now, guard int) {
	t.Helper()
	want, wantIs := takeBy(l, m, state, now, guard)
	if got, is := resolve.Take(l, m, state, now, guard); got != want || is != wantIs {
		t.Fatalf("Take(%+v, %+v, %d, %d, %d) = %+v, %v, want %+v, %v", l, m, state, now, guard, got, is, want, wantIs)
	}
}

// holdAcked holds Acked against the words.
func holdAcked(t *testing.T, l api.Lease, m api.Message, ok, first bool) {
	t.Helper()
	want := ackedBy(l, m, ok, first)
	if got := resolve.Acked(l, m, ok, first); got != want {
		t.Fatalf("Acked(%+v, %+v, %v, %v) = %+v, want %+v", l, m, ok, first, got, want)
	}
}

// P16.1: what is refused whatever the Bind is

func TestTakeOfEachKind(t *testing.T) {
	for _, kind := range append(numbers(), 6, 7, 258) {
		for bind := 0; bind <= 5; bind++ {
			m := update(bind, "a", 30, 30)
			m.Kind = kind
			for l := 0; l <= 5; l++ {
				hold(t, of(l, "a"), m, 6, 50, 2)
				if kind != 2 {
					refused(t, of(l, "a"), m, 6, 50, 2)
				}
			}
		}
	}
	check(t, of(0, ""), update(1, "", 0, 4), 1, 5, 2, api.Lease{Addr: 1, Bind: 1, Ver: 4}, true)
}

func TestTakeOfAnotherAddress(t *testing.T) {
	for bind := 0; bind <= 5; bind++ {
		for l := 0; l <= 5; l++ {
			for _, a := range []api.Addr{0, 2, 1 << 31, math.MaxUint32} {
				m := update(bind, "a", 30, 30)
				m.Addr = a
				refused(t, of(l, "a"), m, 6, 50, 2)
			}
		}
	}
	for _, a := range []api.Addr{0, 1 << 31, math.MaxUint32} {
		m := update(5, "", 0, 0)
		m.Addr = a
		check(t, api.Lease{Addr: a, Ver: 9}, m, 1, 5, 2, api.Lease{Addr: a, Bind: 5, Ver: 9}, true)
	}
}

// wrongLeases are leases that are not valid.
func wrongLeases() []api.Lease {
	var l []api.Lease
	for _, bind := range binds() {
		if bind < 0 || bind > 5 {
			l = append(l, api.Lease{Addr: 1, Bind: bind}, api.Lease{Addr: 1, Bind: bind, Client: "a"})
		}
	}
	for bind := 0; bind <= 5; bind++ {
		for _, n := range []int{math.MinInt, -1, most + 1, math.MaxInt} {
			l = append(l,
				with(of(bind, "a"), func(l *api.Lease) { l.Until = n }),
				with(of(bind, "a"), func(l *api.Lease) { l.Acked = n }),
				with(of(bind, "a"), func(l *api.Lease) { l.Told = n }),
				with(of(bind, "a"), func(l *api.Lease) { l.At = n }),
				with(of(bind, "a"), func(l *api.Lease) { l.Ver = n }),
			)
		}
		if isHeld(bind) {
			l = append(l, of(bind, ""), of(bind, strings.Repeat("a", 33)))
			continue
		}
		l = append(l,
			with(of(bind, ""), func(l *api.Lease) { l.Until = 1 }),
			with(of(bind, ""), func(l *api.Lease) { l.Acked = 1 }),
			with(of(bind, ""), func(l *api.Lease) { l.Told = 1 }),
			with(of(bind, ""), func(l *api.Lease) { l.At = 1 }),
			with(of(bind, ""), func(l *api.Lease) { l.Client = "a" }),
		)
	}
	return append(l, api.Lease{Addr: 1, Bind: -1, Client: "a", Until: -1, Acked: -1, Told: -1, At: -1, Ver: -1})
}

func TestTakeForALeaseThatIsNotValid(t *testing.T) {
	for _, l := range wrongLeases() {
		for bind := 0; bind <= 5; bind++ {
			for _, client := range []string{"a", "b", l.Client} {
				refused(t, l, update(bind, client, 30, 30), 6, 50, 2)
				refused(t, l, update(bind, client, 30, 30), 1, 50, 2)
			}
		}
	}
}

func TestTakeOfABindThatIsNone(t *testing.T) {
	for _, bind := range binds() {
		if bind >= 0 && bind <= 5 {
			continue
		}
		for l := 0; l <= 5; l++ {
			refused(t, of(l, "a"), update(bind, "a", 30, 30), 6, 50, 2)
			refused(t, of(l, "a"), update(bind, "", 30, 30), 1, 50, 2)
		}
	}
}

// A held Bind is of a client, whose name has 1 to 32 bytes; other Binds are of
// nobody, so that their Client doesn't count.
func TestTakeOfClientsOfEachLength(t *testing.T) {
	for _, n := range []int{0, 1, 2, 31, 32, 33, 34, 255, 256, 257, 288, 1000} {
		client := strings.Repeat("\xff", n)
		for bind := 2; bind <= 4; bind++ {
			m := update(bind, client, 30, 30)
			for l := 0; l <= 5; l++ {
				if n == 0 || n > 32 {
					refused(t, of(l, "a"), m, 6, 50, 2)
					refused(t, of(l, "a"), m, 1, 5, 2)
				}
				hold(t, of(l, "a"), m, 6, 50, 2)
				if n > 0 && n <= 32 {
					hold(t, of(l, client), m, 1, 50, 2)
				}
			}
		}
		check(t, of(0, ""), update(1, client, 0, 4), 1, 5, 2, api.Lease{Addr: 1, Bind: 1, Ver: 4}, true)
		check(t, of(1, ""), update(0, client, 0, 4), 1, 5, 2, api.Lease{Addr: 1, Bind: 0, Ver: 4}, true)
		check(t, of(2, "a"), update(5, client, 0, 4), 1, 5, 2, api.Lease{Addr: 1, Bind: 5, Ver: 3}, true)
	}
	long := strings.Repeat("x", 32)
	check(t, of(0, ""), update(2, long, 30, 0), 1, 5, 2, api.Lease{Addr: 1, Bind: 2, Client: long, Told: 30, Ver: 3}, true)
}

// P16.1: Active

func TestTakeOfActive(t *testing.T) {
	refused(t, of(5, ""), update(2, "a", 30, 0), 1, 50, 2)
	refused(t, of(5, ""), update(2, "a", 30, 0), 6, 50, 2)
	for _, bind := range []int{0, 1, 3, 4} {
		for _, client := range []string{"a", "b"} {
			for _, state := range states() {
				for _, now := range []int{19, 20, 21} {
					want := api.Lease{Addr: 1, Bind: 2, Client: client, Told: 30, Ver: 3}
					check(t, of(bind, "a"), update(2, client, 30, 12), state, now, 2, want, true)
				}
			}
		}
	}
	refused(t, of(2, "a"), update(2, "b", 30, 0), 1, 50, 2)
	refused(t, of(2, "a"), update(2, "A", 30, 0), 1, 50, 2)
	refused(t, of(2, "a"), update(2, "aa", 30, 0), 1, 50, 2)
}

// The same client's potential end is the greatest one that was told.
func TestTakeOfActiveWithEachPot(t *testing.T) {
	cases := []struct{ told, pot, want int }{
		{5, math.MinInt, 5}, {5, -1, 5}, {5, 0, 5}, {5, 4, 5}, {5, 5, 5}, {5, 6, 6}, {5, 9, 9},
		{5, most - 1, most - 1}, {5, most, most}, {5, most + 1, most}, {5, math.MaxInt, most},
		{0, -1, 0}, {0, 0, 0}, {0, 1, 1}, {most, most + 1, most}, {most, 3, most}, {most - 1, most, most},
	}
	for _, c := range cases {
		for _, state := range states() {
			for _, now := range []int{0, 20, 21} {
				mine := with(of(2, "a"), func(l *api.Lease) { l.Told = c.told })
				want := with(mine, func(l *api.Lease) { l.Told = c.want })
				check(t, mine, update(2, "a", c.pot, 0), state, now, 2, want, true)
				told := api.Lease{Addr: 1, Bind: 2, Client: "b", Told: nearest(c.pot, most), Ver: 3}
				check(t, of(1, ""), update(2, "b", c.pot, 0), state, now, 2, told, true)
			}
		}
	}
}

// Another client's promise counts if the server is recovering, and what it knows
// is over.
func TestTakeOfActiveOfAnotherClient(t *testing.T) {
	for _, state := range states() {
		for _, now := range []int{math.MinInt, -1, 0, 10, 19, 20, 21, 22, most, math.MaxInt} {
			if isRecovering(state) && now > 20 {
				want := api.Lease{Addr: 1, Bind: 2, Client: "b", Told: 9, Ver: 3}
				check(t, of(2, "a"), update(2, "b", 9, 0), state, now, 2, want, true)
			} else {
				refused(t, of(2, "a"), update(2, "b", 9, 0), state, now, 2)
			}
		}
	}
	// Nothing is behind the last moment.
	last := with(of(2, "a"), func(l *api.Lease) { l.Until = most })
	refused(t, last, update(2, "b", 9, 0), 6, most, 0)
	refused(t, last, update(2, "b", 9, 0), 6, math.MaxInt, 0)
	// What was only told here has no end here: it is over behind the moment 0. The
	// guard doesn't count.
	told := api.Lease{Addr: 1, Bind: 2, Client: "a", Told: 500, Ver: 3}
	refused(t, told, update(2, "b", 9, 0), 7, 0, 0)
	check(t, told, update(2, "b", 9, 0), 7, 1, most, api.Lease{Addr: 1, Bind: 2, Client: "b", Told: 9, Ver: 3}, true)
}

// P16.1: Expired

func TestTakeOfExpired(t *testing.T) {
	for _, state := range states() {
		for _, guard := range []int{-1, 0, 2, 1000} {
			for _, now := range []int{math.MinInt, -1, 0, 19, 20} {
				refused(t, of(2, "a"), update(3, "a", 30, 30), state, now, guard)
			}
			for _, now := range []int{21, 22, most, math.MaxInt} {
				want := with(of(2, "a"), func(l *api.Lease) { l.Bind = 3 })
				check(t, of(2, "a"), update(3, "a", 30, 30), state, now, guard, want, true)
				refused(t, of(2, "a"), update(3, "b", 30, 30), state, now, guard)
			}
			for _, bind := range []int{0, 1, 3, 4, 5} {
				for _, now := range []int{19, 20, 21} {
					check(t, of(bind, "a"), update(3, "a", 30, 30), state, now, guard, of(bind, "a"), true)
					check(t, of(bind, "a"), update(3, "b", 30, 30), state, now, guard, of(bind, "a"), true)
				}
			}
		}
	}
}

// P16.1: Released

func TestTakeOfReleased(t *testing.T) {
	gone := with(of(2, "a"), func(l *api.Lease) { l.Bind = 4 })
	for _, state := range states() {
		for _, now := range []int{math.MinInt, 0, 11, 20, 21, math.MaxInt} {
			// The lease was promised here at 10, and the guard is 2.
			for _, at := range []int{math.MinInt, -1, 0, 9, 10, 11, 12} {
				refused(t, of(2, "a"), update(4, "a", 0, at), state, now, 2)
			}
			for _, at := range []int{13, 14, 1000, most, math.MaxInt} {
				check(t, of(2, "a"), update(4, "a", 0, at), state, now, 2, gone, true)
				refused(t, of(2, "a"), update(4, "b", 0, at), state, now, 2)
			}
			for _, bind := range []int{0, 1, 3, 4, 5} {
				for _, at := range []int{0, 12, 13} {
					check(t, of(bind, "a"), update(4, "a", 0, at), state, now, 2, of(bind, "a"), true)
					check(t, of(bind, "a"), update(4, "b", 0, at), state, now, 2, of(bind, "a"), true)
				}
			}
		}
	}
}

func TestTakeOfReleasedWithEachGuard(t *testing.T) {
	gone := with(of(2, "a"), func(l *api.Lease) { l.Bind = 4 })
	for _, guard := range []int{math.MinInt, -2, -1, 0} {
		refused(t, of(2, "a"), update(4, "a", 0, 9), 1, 5, guard)
		refused(t, of(2, "a"), update(4, "a", 0, 10), 1, 5, guard)
		check(t, of(2, "a"), update(4, "a", 0, 11), 1, 5, guard, gone, true)
	}
	refused(t, of(2, "a"), update(4, "a", 0, 11), 1, 5, 1)
	check(t, of(2, "a"), update(4, "a", 0, 12), 1, 5, 1, gone, true)
	refused(t, of(2, "a"), update(4, "a", 0, most), 1, 5, most-10)
	check(t, of(2, "a"), update(4, "a", 0, most), 1, 5, most-11, gone, true)
	for _, guard := range []int{most - 1, most, most + 1, math.MaxInt} {
		refused(t, of(2, "a"), update(4, "a", 0, most), 1, 5, guard)
		refused(t, of(2, "a"), update(4, "a", 0, math.MaxInt), 1, 5, guard)
	}
}

// A lease that was never promised here may be released whenever that was.
func TestTakeOfReleasedThatWasNotPromisedHere(t *testing.T) {
	told := api.Lease{Addr: 1, Bind: 2, Client: "a", Told: 500, Ver: 3}
	gone := with(told, func(l *api.Lease) { l.Bind = 4 })
	for _, at := range numbers() {
		for _, guard := range numbers() {
			check(t, told, update(4, "a", 0, at), 1, 5, guard, gone, true)
			refused(t, told, update(4, "b", 0, at), 1, 5, guard)
		}
	}
	first := with(told, func(l *api.Lease) { l.At = 1 })
	refused(t, first, update(4, "a", 0, 0), 1, 5, 0)
	refused(t, first, update(4, "a", 0, 1), 1, 5, 0)
	check(t, first, update(4, "a", 0, 2), 1, 5, 0, with(first, func(l *api.Lease) { l.Bind = 4 }), true)
}

// P16.1: Free, Backup

func TestTakeOfFreeAndBackup(t *testing.T) {
	for bind := 0; bind <= 1; bind++ {
		for _, state := range states() {
			for _, now := range []int{0, 20, 21} {
				for _, l := range []int{0, 1, 3, 4} {
					for _, at := range []int{math.MinInt, -1, 0, 2, 3, most + 1, math.MaxInt} {
						check(t, of(l, "a"), update(bind, "", 0, at), state, now, 2, of(l, "a"), true)
					}
					for _, at := range []int{4, 5, 1000, most - 1, most} {
						want := api.Lease{Addr: 1, Bind: bind, Ver: at}
						check(t, of(l, "a"), update(bind, "", 0, at), state, now, 2, want, true)
					}
				}
				for _, at := range []int{-1, 2, 3, 4, most, most + 1} {
					refused(t, of(5, ""), update(bind, "", 0, at), state, now, 2)
				}
			}
		}
	}
}

// The address that is Active is nobody's if the server is recovering, what it
// knows is over, and the Ver is a new one.
func TestTakeOfFreeAndBackupIfActive(t *testing.T) {
	for bind := 0; bind <= 1; bind++ {
		for _, state := range states() {
			for _, now := range []int{math.MinInt, 0, 19, 20, 21, 22, math.MaxInt} {
				for _, client := range []string{"", "a", "b"} {
					for _, at := range []int{math.MinInt, -1, 0, 2, 3, most + 1, math.MaxInt} {
						refused(t, of(2, "a"), update(bind, client, 0, at), state, now, 2)
					}
					for _, at := range []int{4, 5, most} {
						if isRecovering(state) && now > 20 {
							want := api.Lease{Addr: 1, Bind: bind, Ver: at}
							check(t, of(2, "a"), update(bind, client, 0, at), state, now, 2, want, true)
						} else {
							refused(t, of(2, "a"), update(bind, client, 0, at), state, now, 2)
						}
					}
				}
			}
		}
	}
}

func TestTakeOfFreeAndBackupWithTheLastVer(t *testing.T) {
	last := api.Lease{Addr: 1, Bind: 0, Ver: most}
	for _, at := range []int{most - 1, most, most + 1, math.MaxInt} {
		check(t, last, update(1, "", 0, at), 1, 5, 2, last, true)
	}
	before := api.Lease{Addr: 1, Bind: 0, Ver: most - 1}
	check(t, before, update(1, "", 0, most-1), 1, 5, 2, before, true)
	check(t, before, update(1, "", 0, most), 1, 5, 2, api.Lease{Addr: 1, Bind: 1, Ver: most}, true)
	check(t, before, update(1, "", 0, most+1), 1, 5, 2, before, true)
	zero := api.Lease{Addr: 1, Bind: 0}
	check(t, zero, update(1, "", 0, 0), 1, 5, 2, zero, true)
	check(t, zero, update(1, "", 0, -1), 1, 5, 2, zero, true)
	check(t, zero, update(1, "", 0, 1), 1, 5, 2, api.Lease{Addr: 1, Bind: 1, Ver: 1}, true)
}

// P16.1: Abandoned

func TestTakeOfAbandoned(t *testing.T) {
	for l := 0; l <= 5; l++ {
		for _, client := range []string{"", "a", "b"} {
			for _, state := range states() {
				for _, now := range []int{0, 20, 21} {
					for _, at := range []int{math.MinInt, -1, 3, 9, math.MaxInt} {
						check(t, of(l, "a"), update(5, client, at, at), state, now, 2, api.Lease{Addr: 1, Bind: 5, Ver: 3}, true)
					}
				}
			}
		}
	}
}

// P16.1: all of it

// Each Bind of m meets each Bind of l, with the same client and with another one,
// in each state, with each number at the edges in each field.
func TestTakeAtAllEdges(t *testing.T) {
	edges := []int{math.MinInt, -1, 0, 2, 3, 4, 5, 9, 10, 11, 12, 13, 19, 20, 21, most - 1, most, most + 1, math.MaxInt}
	for _, bind := range binds() {
		for l := 0; l <= 5; l++ {
			for _, client := range []string{"", "a", "b"} {
				for _, state := range []int{-1, 0, 1, 3, 5, 6, 7, 8, 9} {
					for _, now := range []int{0, 19, 20, 21, most, math.MaxInt} {
						for _, at := range edges {
							hold(t, of(l, "a"), update(bind, client, at, at), state, now, 2)
							hold(t, of(l, "a"), update(bind, client, at, 13), state, now, at)
						}
					}
				}
			}
		}
	}
}

// anyNumber is a random number: of any size, at an edge, or an ordinary one.
func anyNumber(r *rand.Rand) int {
	switch r.Intn(10) {
	case 0:
		return int(r.Uint64())
	case 1:
		all := numbers()
		return all[r.Intn(len(all))]
	case 2:
		return most - r.Intn(40) + 20
	}
	return r.Intn(14) - 2
}

// anyClient is a random client's name, or none.
func anyClient(r *rand.Rand) string {
	clients := []string{"a", "a", "a", "b", "b", "", strings.Repeat("x", 32), strings.Repeat("x", 33)}
	return clients[r.Intn(len(clients))]
}

// anyLease is a random lease, most often a valid one.
func anyLease(r *rand.Rand) api.Lease {
	l := api.Lease{
		Addr: api.Addr(r.Intn(2)), Bind: r.Intn(6), Client: anyClient(r),
		Until: anyNumber(r), Acked: anyNumber(r), Told: anyNumber(r), At: anyNumber(r), Ver: anyNumber(r),
	}
	if r.Intn(20) == 0 {
		l.Bind = anyNumber(r)
		return l
	}
	if r.Intn(3) == 0 {
		l.Bind = 2
	}
	if r.Intn(20) == 0 {
		return l
	}
	if !isHeld(l.Bind) {
		return api.Lease{Addr: l.Addr, Bind: l.Bind, Ver: nearest(l.Ver, most)}
	}
	l.Until, l.Acked, l.Told = nearest(l.Until, most), nearest(l.Acked, most), nearest(l.Told, most)
	l.At, l.Ver = nearest(l.At, most), nearest(l.Ver, most)
	return l
}

// anyMessage is a random message, most often an Update.
func anyMessage(r *rand.Rand) api.Message {
	m := api.Message{
		Kind: 2, Life: anyNumber(r), Seen: anyNumber(r), Xid: anyNumber(r), State: anyNumber(r),
		Addr: api.Addr(r.Intn(2)), Bind: r.Intn(6), Client: anyClient(r),
		Pot: anyNumber(r), At: anyNumber(r), Ok: r.Intn(2) == 0,
	}
	if r.Intn(20) == 0 {
		m.Kind = anyNumber(r)
	}
	if r.Intn(20) == 0 {
		m.Bind = anyNumber(r)
	}
	return m
}

// anyState is a random state, or a number that is none.
func anyState(r *rand.Rand) int {
	all := states()
	if r.Intn(2) == 0 {
		return 6 + r.Intn(3)
	}
	return all[r.Intn(len(all))]
}

func TestTakeOfRandomArguments(t *testing.T) {
	r := rand.New(rand.NewSource(16))
	for range 400000 {
		hold(t, anyLease(r), anyMessage(r), anyState(r), anyNumber(r), anyNumber(r))
	}
}

// The guard, the state, Life, Seen, Xid, State and Ok don't count where the chapter
// doesn't name them.
func TestTakeOfFieldsThatDontCount(t *testing.T) {
	r := rand.New(rand.NewSource(161))
	for range 50000 {
		l, m, state, now, guard := anyLease(r), anyMessage(r), anyState(r), anyNumber(r), anyNumber(r)
		want, wantIs := resolve.Take(l, m, state, now, guard)
		m.Life, m.Seen, m.Xid, m.State, m.Ok = anyNumber(r), anyNumber(r), anyNumber(r), anyNumber(r), !m.Ok
		if m.Bind != 4 {
			guard = anyNumber(r)
		}
		if m.Bind > 2 {
			state = anyState(r)
		}
		if got, is := resolve.Take(l, m, state, now, guard); got != want || is != wantIs {
			t.Fatalf("Take(%+v, %+v, %d, %d, %d) = %+v, %v, want %+v, %v", l, m, state, now, guard, got, is, want, wantIs)
		}
	}
}

// P16.2

// checkAcked holds Acked against what it is to answer, and the words, too.
func checkAcked(t *testing.T, l api.Lease, m api.Message, ok, first bool, want api.Lease) {
	t.Helper()
	if got := resolve.Acked(l, m, ok, first); got != want {
		t.Errorf("Acked(%+v, %+v, %v, %v) = %+v, want %+v", l, m, ok, first, got, want)
	}
	if got := ackedBy(l, m, ok, first); got != want {
		t.Errorf("by the words, Acked(%+v, %+v, %v, %v) = %+v, want %+v", l, m, ok, first, got, want)
	}
}

// What was told of an Active lease of the same client, and is so, is acknowledged.
func TestAckedOfActive(t *testing.T) {
	cases := []struct{ acked, pot, want int }{
		{7, math.MinInt, 7}, {7, -1, 7}, {7, 0, 7}, {7, 6, 7}, {7, 7, 7}, {7, 8, 8}, {7, 77, 77},
		{7, most - 1, most - 1}, {7, most, most}, {7, most + 1, most}, {7, math.MaxInt, most},
		{0, -1, 0}, {0, 0, 0}, {0, 1, 1}, {most, most + 1, most}, {most, 3, most}, {most - 1, most, most},
	}
	for _, c := range cases {
		mine := with(of(2, "a"), func(l *api.Lease) { l.Acked = c.acked })
		want := with(mine, func(l *api.Lease) { l.Acked = c.want })
		for _, first := range []bool{false, true} {
			checkAcked(t, mine, update(2, "a", c.pot, 0), true, first, want)
			checkAcked(t, mine, update(2, "a", c.pot, 0), false, first, mine)
			checkAcked(t, mine, update(2, "b", c.pot, 0), true, first, mine)
			checkAcked(t, mine, update(2, "", c.pot, 0), true, first, mine)
		}
	}
}

// What is over, as the other server knows, too, is the share of server 0 again.
func TestAckedOfExpiredAndReleased(t *testing.T) {
	for bind := 3; bind <= 4; bind++ {
		for _, c := range []struct{ ver, want int }{{0, 1}, {3, 4}, {most - 2, most - 1}, {most - 1, most}, {most, most}} {
			mine := with(of(bind, "a"), func(l *api.Lease) { l.Ver = c.ver })
			checkAcked(t, mine, update(bind, "a", 30, 30), true, true, api.Lease{Addr: 1, Bind: 0, Ver: c.want})
			checkAcked(t, mine, update(bind, "a", 30, 30), true, false, mine)
			checkAcked(t, mine, update(bind, "a", 30, 30), false, true, mine)
			checkAcked(t, mine, update(bind, "a", 30, 30), false, false, mine)
			checkAcked(t, mine, update(bind, "b", 30, 30), true, true, mine)
			checkAcked(t, mine, update(7-bind, "a", 30, 30), true, true, mine)
		}
	}
}

// Each Bind of m meets each Bind of l, with the same client and with another one.
func TestAckedOfEachBind(t *testing.T) {
	for _, bind := range binds() {
		for l := 0; l <= 5; l++ {
			for _, client := range []string{"", "a", "b"} {
				for _, n := range numbers() {
					for _, ok := range []bool{false, true} {
						for _, first := range []bool{false, true} {
							mine, m := of(l, "a"), update(bind, client, n, n)
							holdAcked(t, mine, m, ok, first)
							counts := ok && isHeld(bind) && bind == l && client == "a" && (bind == 2 || first)
							if got := resolve.Acked(mine, m, ok, first); !counts && got != mine {
								t.Fatalf("Acked(%+v, %+v, %v, %v) = %+v", mine, m, ok, first, got)
							}
						}
					}
				}
			}
		}
	}
}

func TestAckedForALeaseThatIsNotValid(t *testing.T) {
	for _, l := range wrongLeases() {
		for _, bind := range binds() {
			for _, client := range []string{"a", "b", l.Client} {
				checkAcked(t, l, update(bind, client, 30, 30), true, true, l)
				checkAcked(t, l, update(bind, client, 30, 30), true, false, l)
			}
			checkAcked(t, l, update(l.Bind, l.Client, 30, 30), true, true, l)
		}
	}
}

func TestAckedOfRandomArguments(t *testing.T) {
	r := rand.New(rand.NewSource(162))
	for range 400000 {
		l, m := anyLease(r), anyMessage(r)
		if r.Intn(2) == 0 {
			m.Bind, m.Client = l.Bind, l.Client
		}
		holdAcked(t, l, m, r.Intn(4) > 0, r.Intn(2) == 0)
	}
}

// P16.3

// A promise that is not over is kept, or its client has released it, or the
// address is abandoned.
func TestPromisesAreKept(t *testing.T) {
	r := rand.New(rand.NewSource(163))
	kept, gone := 0, 0
	for range 400000 {
		l, m, state, now, guard := anyLease(r), anyMessage(r), anyState(r), anyNumber(r), anyNumber(r)
		if l.Bind != 2 || clock.Past(now, l.Until, 0) || !lease.Right(l) {
			continue
		}
		got, _ := resolve.Take(l, m, state, now, guard)
		if got.Bind == 4 && m.Bind == 4 && m.Client == l.Client || got.Bind == 5 && m.Bind == 5 {
			gone++
			continue
		}
		kept++
		if got.Bind != 2 || got.Client != l.Client || got.Until != l.Until || got.At != l.At || got.Acked != l.Acked || got.Told < l.Told {
			t.Fatalf("Take(%+v, %+v, %d, %d, %d) = %+v", l, m, state, now, guard, got)
		}
	}
	if kept == 0 || gone == 0 {
		t.Fatal(kept, gone)
	}
}

// What the other server acknowledges removes no promise, over or not.
func TestAckedKeepsPromises(t *testing.T) {
	r := rand.New(rand.NewSource(164))
	for range 200000 {
		l, m := anyLease(r), anyMessage(r)
		if l.Bind != 2 {
			continue
		}
		m.Client = l.Client
		got := resolve.Acked(l, m, true, r.Intn(2) == 0)
		want := l
		want.Acked = got.Acked
		if got != want || got.Acked < l.Acked {
			t.Fatalf("Acked(%+v, %+v) = %+v", l, m, got)
		}
	}
}

// A message that is received twice has the same answer, and no further effect.
func TestMessagesTwice(t *testing.T) {
	r := rand.New(rand.NewSource(165))
	accepted := [6]int{}
	for range 400000 {
		l, m, state, now, guard := anyLease(r), anyMessage(r), anyState(r), anyNumber(r), anyNumber(r)
		once, is := resolve.Take(l, m, state, now, guard)
		if !is && once != l {
			t.Fatalf("Take(%+v, %+v, %d, %d, %d) = %+v, %v", l, m, state, now, guard, once, is)
		}
		twice, again := resolve.Take(once, m, state, now, guard)
		if twice != once || again != is {
			t.Fatalf("Take(%+v, %+v, %d, %d, %d) = %+v, %v, and then %+v, %v", l, m, state, now, guard, once, is, twice, again)
		}
		if is {
			accepted[m.Bind]++
			// What was accepted is so later, too, and in each state.
			twice, again = resolve.Take(once, m, anyState(r), anyNumber(r), anyNumber(r))
			if twice != once || !again {
				t.Fatalf("%+v, and then %+v, by %+v", once, twice, m)
			}
		}
		ok, first := r.Intn(2) == 0, r.Intn(2) == 0
		once = resolve.Acked(l, m, ok, first)
		if twice := resolve.Acked(once, m, ok, first); twice != once {
			t.Fatalf("Acked(%+v, %+v, %v, %v) = %+v, and then %+v", l, m, ok, first, once, twice)
		}
	}
	for bind, n := range accepted {
		if n == 0 {
			t.Errorf("no message with the Bind %d was accepted", bind)
		}
	}
}

// If a lease is valid, so is what comes of it, through any run of messages.
func TestResultsAreValid(t *testing.T) {
	r := rand.New(rand.NewSource(166))
	for range 4000 {
		l := anyLease(r)
		if !lease.Right(l) {
			continue
		}
		for range 60 {
			m, was := anyMessage(r), l
			m.Addr = l.Addr
			if r.Intn(3) == 0 {
				l = resolve.Acked(l, m, r.Intn(4) > 0, r.Intn(2) == 0)
			} else {
				l, _ = resolve.Take(l, m, anyState(r), anyNumber(r), anyNumber(r))
			}
			if !lease.Right(l) || !isRight(l) || l.Addr != was.Addr || l.Ver < was.Ver {
				t.Fatalf("%+v, and then %+v, by %+v", was, l, m)
			}
		}
	}
}

// P1: no call panics, for all arguments; R3, R4: the same arguments have the same
// answer.
func TestNoPanics(t *testing.T) {
	for _, n := range numbers() {
		for _, bind := range binds() {
			l := api.Lease{Bind: bind, Client: "a", Until: n, Acked: n, Told: n, At: n, Ver: n}
			m := api.Message{Kind: 2, Life: n, Seen: n, Xid: n, State: n, Bind: bind, Client: "a", Pot: n, At: n}
			for _, k := range numbers() {
				hold(t, l, m, n, k, k)
				hold(t, l, m, 6, n, k)
				m.Pot, m.At = k, k
				hold(t, l, m, 6, math.MaxInt, n)
				holdAcked(t, l, m, true, true)
				holdAcked(t, l, m, true, false)
			}
		}
	}
	check(t, api.Lease{}, api.Message{}, 0, 0, 0, api.Lease{}, false)
	checkAcked(t, api.Lease{}, api.Message{}, true, true, api.Lease{})
}
