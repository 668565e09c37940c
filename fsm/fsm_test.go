package fsm_test

import (
	"math"
	"math/rand"
	"slices"
	"strings"
	"testing"

	"lessor/api"
	"lessor/fsm"
)

// chapter is the table of the document, of which the tests read what they want.
const chapter = `
| Startup | Heard | PartnerDown | Recover |
| Startup | Heard | Conflict, ResInterrupted | Conflict |
| Startup | Heard | Startup, Normal, Interrupted, RecoverDone | Normal |
| Startup | Order | any | PartnerDown |
| Normal | Heard | PartnerDown, Conflict, ResInterrupted | Conflict |
| Normal | Lost | any | Interrupted |
| Interrupted | Heard | PartnerDown, Conflict, ResInterrupted | Conflict |
| Interrupted | Heard | Startup, Normal, Interrupted, RecoverDone | Normal |
| Interrupted | Order | any | PartnerDown |
| PartnerDown | Heard | Normal, Interrupted, PartnerDown, Conflict, ResInterrupted | Conflict |
| PartnerDown | Synced | RecoverDone | Normal |
| Conflict | Synced | Normal, Conflict | Normal |
| Conflict | Lost | any | ResInterrupted |
| ResInterrupted | Heard | any | Conflict |
| ResInterrupted | Order | any | PartnerDown |
| Recover | Synced | any | RecoverWait |
| RecoverWait | Waited | any | RecoverDone |
| RecoverDone | Heard | Normal | Normal |
| RecoverDone | Heard | Conflict, ResInterrupted | Conflict |
`

// The names of the states and of the events, each at its number.
const (
	states = "Startup Normal Interrupted PartnerDown Conflict ResInterrupted Recover RecoverWait RecoverDone"
	events = "Heard Lost Order Synced Waited"
)

const (
	countStates = 9
	countEvents = 5
)

// number is where a name is in a list of names.
func number(t *testing.T, list, name string) int {
	t.Helper()
	n := slices.Index(strings.Fields(list), name)
	if n < 0 {
		t.Fatalf("%q has no number", name)
	}
	return n
}

// cell is a state and an event: one row of the table, or several.
type cell struct{ state, event int }

// column is what comes of a cell: with whatever the other server is, or with one
// of some states.
type column struct {
	any  bool
	next int
	with map[int]int
}

// read is the table of the chapter.
func read(t *testing.T) map[cell]column {
	t.Helper()
	table := map[cell]column{}
	for line := range strings.SplitSeq(strings.TrimSpace(chapter), "\n") {
		parts := strings.Split(strings.Trim(line, "| "), " | ")
		at := cell{number(t, states, parts[0]), number(t, events, parts[1])}
		next := number(t, states, parts[3])
		c := table[at]
		if c.with == nil {
			c.with = map[int]int{}
		}
		if parts[2] == "any" {
			c.any, c.next = true, next
		} else {
			for name := range strings.SplitSeq(parts[2], ", ") {
				other := number(t, states, name)
				if _, is := c.with[other]; is {
					t.Fatalf("the chapter has two rows for %v with %s", at, name)
				}
				c.with[other] = next
			}
		}
		if c.any && len(c.with) > 0 {
			t.Fatalf("the chapter has two rows for %v", at)
		}
		table[at] = c
	}
	return table
}

// want is what the table says.
func want(table map[cell]column, state, event, other int) int {
	c, is := table[cell{state, event}]
	if !is {
		return state
	}
	if c.any {
		return c.next
	}
	if next, is := c.with[other]; is {
		return next
	}
	return state
}

// strange is numbers that are neither a state nor an event, many of which agree
// with one in their last bits.
func strange() []int {
	l := []int{
		-1, -2, -9, -63, -64, -65, 9, 10, 15, 16, 31, 32, 33, 63, 64, 99, 100, 255, 1000,
		math.MinInt, math.MinInt + 63, math.MinInt + 64, math.MaxInt, math.MaxInt - 63, math.MaxInt - 64,
		math.MinInt32 - 1, math.MaxInt32, math.MaxUint32, 1 << 62, -1 << 62,
	}
	for n := range countStates {
		for _, more := range []int{
			16, 32, 64, 128, 192, 64 * 9, 64 * 64, 64 * 1000, 256, 1 << 16, 1 << 31, 1 << 32, 1 << 62,
			-16, -32, -64, -128, -64 * 64, -256, -1 << 16, -1 << 32, -1 << 62, math.MinInt,
		} {
			l = append(l, n+more)
		}
		l = append(l, math.MaxInt-n, -1-n, ^(1 << n), 1<<n+16)
	}
	slices.Sort(l)
	return slices.Compact(l)
}

// numbers is all states, and numbers that are none.
func numbers() []int {
	l := strange()
	for n := range countStates {
		l = append(l, n)
	}
	return l
}

func TestStrangeNumbersAreStrange(t *testing.T) {
	for _, n := range strange() {
		if n >= 0 && n < countStates {
			t.Errorf("%d is a state", n)
		}
	}
	for _, n := range []int{-1, 9, 63, 64, 67, 64*2 + 3, 3 - 64, math.MinInt, math.MaxInt} {
		if !slices.Contains(strange(), n) {
			t.Errorf("%d is missing", n)
		}
	}
}

// next checks Next of three numbers.
func next(t *testing.T, state, event, other, want int) {
	t.Helper()
	if got := fsm.Next(state, event, other); got != want {
		t.Errorf("Next(%d, %d, %d) = %d, want %d", state, event, other, got, want)
	}
}

// P14.1

func TestNamesOfApi(t *testing.T) {
	for want, got := range []int{
		api.Startup, api.Normal, api.Interrupted, api.PartnerDown, api.Conflict, api.ResInterrupted, api.Recover, api.RecoverWait, api.RecoverDone,
	} {
		if got != want {
			t.Errorf("a state has the number %d, want %d", got, want)
		}
	}
	for want, got := range []int{api.Heard, api.Lost, api.Order, api.Synced, api.Waited} {
		if got != want {
			t.Errorf("an event has the number %d, want %d", got, want)
		}
	}
}

func TestNextOfTheChaptersExamples(t *testing.T) {
	next(t, api.Normal, api.Lost, 0, api.Interrupted)
	next(t, api.Startup, api.Heard, api.PartnerDown, api.Recover)
}

func TestNextOfOrdinaryRuns(t *testing.T) {
	type event struct{ event, other, want int }
	for _, run := range []struct {
		begin  int
		events []event
	}{
		{api.Startup, []event{ // both begin, lose each other, and find each other again
			{api.Heard, api.Startup, api.Normal}, {api.Heard, api.Normal, api.Normal}, {api.Lost, api.Normal, api.Interrupted},
			{api.Lost, api.Normal, api.Interrupted}, {api.Heard, api.Interrupted, api.Normal},
		}},
		{api.Interrupted, []event{ // an order, and the other one comes back empty
			{api.Order, 0, api.PartnerDown}, {api.Heard, api.Startup, api.PartnerDown}, {api.Heard, api.Recover, api.PartnerDown},
			{api.Synced, api.Recover, api.PartnerDown}, {api.Heard, api.RecoverWait, api.PartnerDown},
			{api.Heard, api.RecoverDone, api.PartnerDown}, {api.Synced, api.RecoverDone, api.Normal},
		}},
		{api.Startup, []event{ // that other one
			{api.Heard, api.PartnerDown, api.Recover}, {api.Heard, api.PartnerDown, api.Recover}, {api.Waited, api.PartnerDown, api.Recover},
			{api.Synced, api.PartnerDown, api.RecoverWait}, {api.Heard, api.PartnerDown, api.RecoverWait},
			{api.Waited, api.PartnerDown, api.RecoverDone}, {api.Heard, api.PartnerDown, api.RecoverDone}, {api.Heard, api.Normal, api.Normal},
		}},
		{api.PartnerDown, []event{ // both were given the order
			{api.Heard, api.PartnerDown, api.Conflict}, {api.Heard, api.PartnerDown, api.Conflict}, {api.Synced, api.PartnerDown, api.Conflict},
			{api.Lost, api.Conflict, api.ResInterrupted}, {api.Lost, api.Conflict, api.ResInterrupted}, {api.Heard, api.ResInterrupted, api.Conflict},
			{api.Synced, api.Conflict, api.Normal},
		}},
		{api.ResInterrupted, []event{{api.Synced, api.Normal, api.ResInterrupted}, {api.Order, api.Conflict, api.PartnerDown}, {api.Lost, api.Conflict, api.PartnerDown}}},
	} {
		state := run.begin
		for _, e := range run.events {
			next(t, state, e.event, e.other, e.want)
			state = e.want
		}
	}
}

func TestNextOfEachStateAndEvent(t *testing.T) {
	table := read(t)
	changes := 0
	for state := range countStates {
		for event := range countEvents {
			for other := range countStates {
				n := want(table, state, event, other)
				next(t, state, event, other, n)
				if n != state {
					changes++
				}
			}
		}
	}
	// As counted in the chapter: 9 for each of the eight rows with any.
	if changes != 8*9+1+2+4+3+3+4+5+1+2+1+2 {
		t.Errorf("%d changes", changes)
	}
}

func TestNextWhereTheOtherIsNoState(t *testing.T) {
	table := read(t)
	for state := range countStates {
		for event := range countEvents {
			for _, other := range strange() {
				n := state
				if c := table[cell{state, event}]; c.any {
					n = c.next
				}
				next(t, state, event, other, n)
			}
		}
	}
}

func TestNextOfEachAnyWhereTheOtherIsNoState(t *testing.T) {
	for _, other := range strange() {
		next(t, api.Startup, api.Order, other, api.PartnerDown)
		next(t, api.Normal, api.Lost, other, api.Interrupted)
		next(t, api.Interrupted, api.Order, other, api.PartnerDown)
		next(t, api.Conflict, api.Lost, other, api.ResInterrupted)
		next(t, api.ResInterrupted, api.Heard, other, api.Conflict)
		next(t, api.ResInterrupted, api.Order, other, api.PartnerDown)
		next(t, api.Recover, api.Synced, other, api.RecoverWait)
		next(t, api.RecoverWait, api.Waited, other, api.RecoverDone)
	}
}

func TestNextWhereTheStateIsNone(t *testing.T) {
	for _, state := range strange() {
		for event := range countEvents {
			for other := range countStates {
				next(t, state, event, other, state)
			}
		}
	}
}

func TestNextWhereTheEventIsNone(t *testing.T) {
	for _, event := range append(strange(), 5, 6, 7, 8) {
		for state := range countStates {
			for other := range countStates {
				next(t, state, event, other, state)
			}
		}
	}
}

func TestNextWhereAllIsWrong(t *testing.T) {
	for _, state := range strange() {
		next(t, state, state, state, state)
		for _, event := range strange() {
			for _, other := range []int{math.MinInt, -64, -1, 9, 63, 64, 67, math.MaxInt, state, event} {
				next(t, state, event, other, state)
			}
		}
	}
}

func TestNextOfAnyNumbers(t *testing.T) {
	table := read(t)
	r := rand.New(rand.NewSource(1))
	l := numbers()
	pick := func() int {
		switch r.Intn(4) {
		case 0:
			return int(r.Uint64())
		case 1:
			return l[r.Intn(len(l))]
		}
		return r.Intn(countStates)
	}
	for range 200000 {
		state, event, other := pick(), pick(), pick()
		next(t, state, event, other, want(table, state, event, other))
	}
}

func TestNextAnswersTheSameAgain(t *testing.T) {
	for range 3 {
		next(t, api.Startup, api.Order, 9, api.PartnerDown)
		next(t, api.Startup, api.Heard, api.Normal, api.Normal)
		next(t, api.Startup, api.Heard, api.Recover, api.Startup)
	}
}

// P14.2

func TestServes(t *testing.T) {
	for state, want := range []bool{false, true, true, true, false, false, false, false, false} {
		if got := fsm.Serves(state); got != want {
			t.Errorf("Serves(%d) = %v, want %v", state, got, want)
		}
	}
	for _, n := range strange() {
		if fsm.Serves(n) {
			t.Errorf("Serves(%d) = true, want false", n)
		}
	}
}

func TestRestart(t *testing.T) {
	for _, n := range numbers() {
		want := api.Startup
		if n == 3 {
			want = api.PartnerDown
		}
		if got := fsm.Restart(n); got != want {
			t.Errorf("Restart(%d) = %d, want %d", n, got, want)
		}
	}
}

func TestName(t *testing.T) {
	for state, want := range strings.Fields(states) {
		if got := fsm.Name(state); got != want {
			t.Errorf("Name(%d) = %q, want %q", state, got, want)
		}
	}
	for _, n := range strange() {
		if got := fsm.Name(n); got != "" {
			t.Errorf("Name(%d) = %q, want the empty string", n, got)
		}
	}
}

// P14.3

func TestOnlyAnOrderLeadsToPartnerDown(t *testing.T) {
	for _, state := range numbers() {
		for _, event := range numbers() {
			for _, other := range numbers() {
				if state != api.PartnerDown && event != api.Order && fsm.Next(state, event, other) == api.PartnerDown {
					t.Fatalf("Next(%d, %d, %d) = PartnerDown without an order", state, event, other)
				}
			}
		}
	}
	led := 0
	for state := range countStates {
		if state != api.PartnerDown && fsm.Next(state, api.Order, 0) == api.PartnerDown {
			led++
		}
	}
	if led != 3 {
		t.Errorf("an order leads from %d other states to PartnerDown, want 3", led)
	}
}

func TestFromRecoverDoneOnlyNormalLeadsToServing(t *testing.T) {
	for _, event := range numbers() {
		for _, other := range numbers() {
			if n := fsm.Next(api.RecoverDone, event, other); fsm.Serves(n) && other != api.Normal {
				t.Errorf("Next(RecoverDone, %d, %d) = %d, in which clients are served", event, other, n)
			}
		}
	}
	if n := fsm.Next(api.RecoverDone, api.Heard, api.Normal); !fsm.Serves(n) {
		t.Errorf("Next(RecoverDone, Heard, Normal) = %d, in which clients are not served", n)
	}
}

func TestTwoThatAreNormalRemainSo(t *testing.T) {
	r := rand.New(rand.NewSource(2))
	for range 100 {
		both := [2]int{api.Normal, api.Normal}
		for range 50 {
			n := r.Intn(2)
			both[n] = fsm.Next(both[n], api.Heard, both[1-n])
		}
		if both != [2]int{api.Normal, api.Normal} {
			t.Fatalf("two servers that are Normal, and hear each other, are %v", both)
		}
	}
}

func TestARestartedServerDoesNotServe(t *testing.T) {
	for _, before := range numbers() {
		state := fsm.Restart(before)
		if fsm.Serves(state) != (before == api.PartnerDown) {
			t.Errorf("a server that was in %d serves clients at once: %v", before, fsm.Serves(state))
		}
		if before == api.PartnerDown {
			continue
		}
		// All states it may come to while it hears nothing and gets no order.
		reached := []int{state}
		for i := 0; i < len(reached); i++ {
			for _, event := range numbers() {
				for _, other := range numbers() {
					n := fsm.Next(reached[i], event, other)
					if event != api.Heard && event != api.Order && !slices.Contains(reached, n) {
						reached = append(reached, n)
					}
				}
			}
		}
		if slices.ContainsFunc(reached, fsm.Serves) {
			t.Fatalf("a server that was in %d comes to the states %v without hearing the other one", before, reached)
		}
	}
	if !fsm.Serves(fsm.Next(api.Startup, api.Heard, api.Normal)) || !fsm.Serves(fsm.Next(api.Startup, api.Order, 0)) {
		t.Error("a server that restarted serves clients neither when it hears the other one, nor on an order")
	}
}
