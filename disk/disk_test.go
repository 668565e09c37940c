package disk_test

import (
	"fmt"
	"math"
	"math/rand"
	"strings"
	"testing"

	"lessor/api"
	"lessor/disk"
)

// deed is a call of a disk's: of Append or Swap with bytes, of Sync, or of Fail
// or Crash with a number.
type deed struct {
	call  string
	bytes string
	n     int
}

func (x deed) String() string { return fmt.Sprintf("%s(%q, %d)", x.call, x.bytes, x.n) }

func add(b string) deed  { return deed{call: "Append", bytes: b} }
func sync() deed         { return deed{call: "Sync"} }
func swap(b string) deed { return deed{call: "Swap", bytes: b} }
func fail(n int) deed    { return deed{call: "Fail", n: n} }
func crash(n int) deed   { return deed{call: "Crash", n: n} }

// do does a deed; Fail and Crash, which have no error, answer OK.
func do(d *disk.Disk, x deed) api.Errno {
	switch x.call {
	case "Append":
		return d.Append([]byte(x.bytes))
	case "Sync":
		return d.Sync()
	case "Swap":
		return d.Swap([]byte(x.bytes))
	case "Fail":
		d.Fail(x.n)
	case "Crash":
		d.Crash(x.n)
	}
	return api.OK
}

// step is a deed, and what is to come of it: its error, the disk's bytes, and
// how many of them are durable.
type step struct {
	deed
	e     api.Errno
	bytes string
	lasts int
}

// made is a new disk.
func made(t *testing.T, room int) *disk.Disk {
	t.Helper()
	d, e := disk.New(room)
	if e != api.OK || d == nil {
		t.Fatalf("New(%d): error %d", room, e)
	}
	holds(t, d, "", 0)
	return d
}

// holds checks a disk's bytes, and how many of them are durable.
func holds(t *testing.T, d *disk.Disk, bytes string, lasts int) {
	t.Helper()
	if got := string(d.Read()); got != bytes {
		t.Fatalf("%d bytes %.40q, want %d bytes %.40q", len(got), got, len(bytes), bytes)
	}
	if got := d.Lasts(); got != lasts {
		t.Fatalf("Lasts %d, want %d", got, lasts)
	}
}

// run does steps, one after the other, on a new disk.
func run(t *testing.T, room int, steps []step) {
	t.Helper()
	d := made(t, room)
	for i, s := range steps {
		if e := do(d, s.deed); e != s.e {
			t.Fatalf("step %d, %v: error %d, want %d", i, s.deed, e, s.e)
		}
		got, lasts := string(d.Read()), d.Lasts()
		if got != s.bytes || lasts != s.lasts {
			t.Fatalf("step %d, %v: %q, %d of them durable; want %q, %d", i, s.deed, got, lasts, s.bytes, s.lasts)
		}
	}
}

// model is a disk by the document's words: what is durable, what was appended
// after it; and, if changes fail, how many are performed before.
type model struct {
	room           int
	durable, after string
	fails          bool
	in             int
}

// change is what comes of a change, for which there must be room for n bytes.
func (m *model) change(n int) api.Errno {
	if m.fails {
		if m.in == 0 {
			return api.ErrDown
		}
		m.in--
	}
	if n > m.room {
		return api.ErrFull
	}
	return api.OK
}

// do does a deed.
func (m *model) do(x deed) api.Errno {
	switch x.call {
	case "Append":
		e := m.change(len(m.durable) + len(m.after) + len(x.bytes))
		if e == api.OK {
			m.after += x.bytes
		}
		return e
	case "Sync":
		e := m.change(0)
		if e == api.OK {
			m.durable, m.after = m.durable+m.after, ""
		}
		return e
	case "Swap":
		e := m.change(len(x.bytes))
		if e == api.OK {
			m.durable, m.after = x.bytes, ""
		}
		return e
	case "Fail":
		m.fails, m.in = x.n >= 0, x.n
	case "Crash":
		kept := m.after
		if x.n < len(kept) {
			kept = kept[:max(x.n, 0)]
		}
		m.durable, m.after, m.fails = m.durable+kept, "", false
	}
	return api.OK
}

// same does deeds on a disk and on its model, and holds them against each other
// after each.
func same(t *testing.T, room int, deeds []deed) {
	t.Helper()
	d, e := disk.New(room)
	if e != api.OK {
		t.Fatalf("New(%d): error %d", room, e)
	}
	m := model{room: room}
	for i, x := range deeds {
		got, want := do(d, x), m.do(x)
		if got != want {
			t.Fatalf("room %d, deed %d of %v: error %d, want %d", room, i, deeds, got, want)
		}
		if b, lasts := string(d.Read()), d.Lasts(); b != m.durable+m.after || lasts != len(m.durable) {
			t.Fatalf("room %d, deed %d of %v: %q, %d of them durable; want %q, %d", room, i, deeds, b, lasts, m.durable+m.after, len(m.durable))
		}
	}
}

// anyNumber is a random number for Fail or Crash.
func anyNumber(r *rand.Rand) int {
	edges := []int{math.MinInt, math.MinInt + 1, -1 << 32, -2, math.MaxInt - 1, math.MaxInt, 1 << 32, api.MaxDisk}
	if r.Intn(6) == 0 {
		return edges[r.Intn(len(edges))]
	}
	return r.Intn(8) - 1
}

// anyDeed is a random deed on a disk of this room.
func anyDeed(r *rand.Rand, room int) deed {
	b := make([]byte, r.Intn(room+2))
	if r.Intn(2) == 0 {
		b = b[:min(len(b), 1+r.Intn(3))]
	}
	for i := range b {
		b[i] = byte(r.Intn(256))
	}
	switch r.Intn(12) {
	case 0, 1, 2, 3, 4:
		return add(string(b))
	case 5, 6:
		return sync()
	case 7:
		return swap(string(b))
	case 8, 9:
		return fail(anyNumber(r))
	}
	return crash(anyNumber(r))
}

// anyDeeds are random deeds on a disk of this room.
func anyDeeds(r *rand.Rand, room, count int) []deed {
	l := make([]deed, count)
	for i := range l {
		l[i] = anyDeed(r, room)
	}
	return l
}

// P8.1

func TestNew(t *testing.T) {
	for _, room := range []int{1, 2, 3, 4, 255, 256, 257, 1000, 65535, 65536, 65537, api.MaxDisk - 1, api.MaxDisk} {
		d := made(t, room)
		all := strings.Repeat("x", room)
		if e := d.Append([]byte(all)); e != api.OK {
			t.Errorf("room %d: Append of as many bytes: error %d", room, e)
		}
		if e := d.Append([]byte("y")); e != api.ErrFull {
			t.Errorf("room %d: Append of one more: error %d", room, e)
		}
		holds(t, d, all, 0)
	}
}

func TestNewOfNoRoom(t *testing.T) {
	for _, room := range []int{
		0, -1, -2, -api.MaxDisk, math.MinInt, math.MinInt + 1, math.MinInt + 5, -1 << 31, -1 << 32,
		api.MaxDisk + 1, api.MaxDisk + 2, 2 * api.MaxDisk, 1 << 31, 1<<32 - 1, 1 << 32, 1<<32 + 1, 1<<32 + 4, math.MaxInt - 1, math.MaxInt,
	} {
		if d, e := disk.New(room); d != nil || e != api.ErrArg {
			t.Errorf("New(%d) = %v, error %d, want nothing, error %d", room, d, e, api.ErrArg)
		}
	}
}

func TestChangesOfANewDiskDoNotFail(t *testing.T) {
	d := made(t, 3)
	for i := range 100000 {
		if a, b, c := d.Append([]byte("ab")), d.Sync(), d.Swap(nil); a != api.OK || b != api.OK || c != api.OK {
			t.Fatalf("round %d: errors %d, %d, %d", i, a, b, c)
		}
	}
}

// changes are the kinds of changes: of nothing, of a byte, and too many bytes
// for a disk with room for 8.
func changes() []deed {
	return []deed{add(""), add("a"), add("123456789"), sync(), swap(""), swap("b"), swap("123456789")}
}

func TestFailAfterEachKindOfChanges(t *testing.T) {
	for in := range 6 {
		for _, before := range changes() {
			for _, after := range changes() {
				d := made(t, 8)
				d.Fail(in)
				for i := range in {
					if e := do(d, before); e == api.ErrDown {
						t.Fatalf("Fail(%d): change %d, %v, failed", in, i, before)
					}
				}
				bytes, lasts := string(d.Read()), d.Lasts()
				for i := range 3 {
					if e := do(d, after); e != api.ErrDown {
						t.Fatalf("Fail(%d): %d changes %v, and then %d of %v: error %d", in, in, before, i, after, e)
					}
					holds(t, d, bytes, lasts)
				}
			}
		}
	}
}

func TestFail(t *testing.T) {
	for _, steps := range [][]step{
		{{fail(0), 0, "", 0}, {add("a"), api.ErrDown, "", 0}, {sync(), api.ErrDown, "", 0}, {swap("b"), api.ErrDown, "", 0}, {add(""), api.ErrDown, "", 0}},
		{{add("a"), 0, "a", 0}, {fail(0), 0, "a", 0}, {sync(), api.ErrDown, "a", 0}, {swap("b"), api.ErrDown, "a", 0}, {add("b"), api.ErrDown, "a", 0}},
		{{fail(1), 0, "", 0}, {add("a"), 0, "a", 0}, {sync(), api.ErrDown, "a", 0}, {add("b"), api.ErrDown, "a", 0}},
		{{fail(1), 0, "", 0}, {sync(), 0, "", 0}, {add("a"), api.ErrDown, "", 0}},
		{{fail(1), 0, "", 0}, {swap("ab"), 0, "ab", 2}, {swap("c"), api.ErrDown, "ab", 2}},
		{{fail(3), 0, "", 0}, {add("a"), 0, "a", 0}, {sync(), 0, "a", 1}, {swap("b"), 0, "b", 1}, {sync(), api.ErrDown, "b", 1}, {add(""), api.ErrDown, "b", 1}},
		// Below 0: no change fails, then or any more.
		{{fail(-1), 0, "", 0}, {add("a"), 0, "a", 0}, {sync(), 0, "a", 1}, {swap("b"), 0, "b", 1}},
		{{fail(math.MinInt), 0, "", 0}, {add("a"), 0, "a", 0}, {sync(), 0, "a", 1}, {swap("b"), 0, "b", 1}},
		{{fail(0), 0, "", 0}, {fail(-1), 0, "", 0}, {add("a"), 0, "a", 0}, {sync(), 0, "a", 1}},
		{{fail(0), 0, "", 0}, {add("a"), api.ErrDown, "", 0}, {fail(-1), 0, "", 0}, {add("a"), 0, "a", 0}, {sync(), 0, "a", 1}},
		{{fail(2), 0, "", 0}, {add("a"), 0, "a", 0}, {fail(-7), 0, "a", 0}, {sync(), 0, "a", 1}, {add("b"), 0, "ab", 1}, {sync(), 0, "ab", 2}},
		{{fail(0), 0, "", 0}, {sync(), api.ErrDown, "", 0}, {fail(math.MinInt), 0, "", 0}, {add("a"), 0, "a", 0}},
		// More than follow.
		{{fail(9), 0, "", 0}, {add("a"), 0, "a", 0}, {sync(), 0, "a", 1}, {swap("b"), 0, "b", 1}},
		{{fail(math.MaxInt), 0, "", 0}, {add("a"), 0, "a", 0}, {sync(), 0, "a", 1}, {swap("b"), 0, "b", 1}},
		{{fail(0), 0, "", 0}, {fail(math.MaxInt), 0, "", 0}, {add("a"), 0, "a", 0}, {sync(), 0, "a", 1}},
		// Called again ahead of its end: what was left does not count any more.
		{{fail(3), 0, "", 0}, {add("a"), 0, "a", 0}, {fail(0), 0, "a", 0}, {sync(), api.ErrDown, "a", 0}},
		{{fail(3), 0, "", 0}, {add("a"), 0, "a", 0}, {fail(1), 0, "a", 0}, {sync(), 0, "a", 1}, {add("b"), api.ErrDown, "a", 1}},
		{{fail(1), 0, "", 0}, {fail(2), 0, "", 0}, {add("a"), 0, "a", 0}, {sync(), 0, "a", 1}, {add("b"), api.ErrDown, "a", 1}},
		{{fail(2), 0, "", 0}, {add("a"), 0, "a", 0}, {fail(2), 0, "a", 0}, {sync(), 0, "a", 1}, {add("b"), 0, "ab", 1}, {sync(), api.ErrDown, "ab", 1}},
		{{fail(2), 0, "", 0}, {fail(0), 0, "", 0}, {fail(1), 0, "", 0}, {add("a"), 0, "a", 0}, {sync(), api.ErrDown, "a", 0}},
		// Called again behind it: those that failed are not counted.
		{{fail(0), 0, "", 0}, {add("a"), api.ErrDown, "", 0}, {sync(), api.ErrDown, "", 0}, {fail(1), 0, "", 0}, {add("b"), 0, "b", 0}, {sync(), api.ErrDown, "b", 0}},
		{{fail(1), 0, "", 0}, {add("a"), 0, "a", 0}, {add("b"), api.ErrDown, "a", 0}, {fail(2), 0, "a", 0}, {add("c"), 0, "ac", 0}, {sync(), 0, "ac", 2}, {sync(), api.ErrDown, "ac", 2}},
		{{fail(1), 0, "", 0}, {add("a"), 0, "a", 0}, {add("b"), api.ErrDown, "a", 0}, {fail(0), 0, "a", 0}, {sync(), api.ErrDown, "a", 0}, {fail(-1), 0, "a", 0}, {sync(), 0, "a", 1}},
	} {
		run(t, 4, steps)
	}
}

func TestWhatIsRefusedForWantOfRoomCounts(t *testing.T) {
	for _, steps := range [][]step{
		{{fail(1), 0, "", 0}, {add("abc"), api.ErrFull, "", 0}, {add("a"), api.ErrDown, "", 0}, {add("abc"), api.ErrDown, "", 0}},
		{{fail(1), 0, "", 0}, {swap("abc"), api.ErrFull, "", 0}, {swap("a"), api.ErrDown, "", 0}, {swap("abc"), api.ErrDown, "", 0}},
		{{fail(2), 0, "", 0}, {swap("abc"), api.ErrFull, "", 0}, {add("abc"), api.ErrFull, "", 0}, {sync(), api.ErrDown, "", 0}},
		{{fail(2), 0, "", 0}, {add("abc"), api.ErrFull, "", 0}, {add("a"), 0, "a", 0}, {sync(), api.ErrDown, "a", 0}},
		{{fail(3), 0, "", 0}, {add("ab"), 0, "ab", 0}, {add("c"), api.ErrFull, "ab", 0}, {sync(), 0, "ab", 2}, {swap(""), api.ErrDown, "ab", 2}},
	} {
		run(t, 2, steps)
	}
}

func TestOnlyChangesCount(t *testing.T) {
	d := made(t, 4)
	d.Append([]byte("ab"))
	d.Fail(1)
	for range 1000 {
		holds(t, d, "ab", 0)
	}
	if e := d.Sync(); e != api.OK {
		t.Fatalf("Sync: error %d", e)
	}
	for range 1000 {
		holds(t, d, "ab", 2)
	}
	if e := d.Sync(); e != api.ErrDown {
		t.Fatalf("Sync: error %d, want %d", e, api.ErrDown)
	}
}

func TestFailAfterManyChanges(t *testing.T) {
	const in = 100000
	d := made(t, 1)
	d.Fail(in)
	for i := range in {
		if e := d.Sync(); e != api.OK {
			t.Fatalf("change %d: error %d", i, e)
		}
	}
	for i := range in {
		if e := d.Sync(); e != api.ErrDown {
			t.Fatalf("change %d after %d: error %d, want %d", i, in, e, api.ErrDown)
		}
	}
}

// P8.2

func TestAppend(t *testing.T) {
	for _, steps := range [][]step{
		{{add("a"), 0, "a", 0}, {add("bc"), 0, "abc", 0}, {add(""), 0, "abc", 0}, {add("d"), 0, "abcd", 0}},
		{{add(""), 0, "", 0}, {add("\x00\xff"), 0, "\x00\xff", 0}, {add("\x00"), 0, "\x00\xff\x00", 0}},
		// Of just as many bytes as there is room for, and of one more.
		{{add("abcd"), 0, "abcd", 0}, {add(""), 0, "abcd", 0}, {add("e"), api.ErrFull, "abcd", 0}},
		{{add("abcde"), api.ErrFull, "", 0}, {add("abcd"), 0, "abcd", 0}},
		{{add("ab"), 0, "ab", 0}, {add("cde"), api.ErrFull, "ab", 0}, {add("cd"), 0, "abcd", 0}, {add("e"), api.ErrFull, "abcd", 0}},
		{{swap("ab"), 0, "ab", 2}, {add("cde"), api.ErrFull, "ab", 2}, {add("cd"), 0, "abcd", 2}, {add("e"), api.ErrFull, "abcd", 2}, {sync(), 0, "abcd", 4}, {add(""), 0, "abcd", 4}},
		// What was lost takes no room.
		{{add("abcd"), 0, "abcd", 0}, {crash(1), 0, "a", 1}, {add("efgh"), api.ErrFull, "a", 1}, {add("efg"), 0, "aefg", 1}},
		// ErrDown comes first.
		{{fail(0), 0, "", 0}, {add("abcde"), api.ErrDown, "", 0}, {add("abcd"), api.ErrDown, "", 0}, {add(""), api.ErrDown, "", 0}},
	} {
		run(t, 4, steps)
	}
}

func TestSync(t *testing.T) {
	for _, steps := range [][]step{
		{{sync(), 0, "", 0}, {sync(), 0, "", 0}},
		{{add("a"), 0, "a", 0}, {sync(), 0, "a", 1}, {sync(), 0, "a", 1}, {add("bc"), 0, "abc", 1}, {add("d"), 0, "abcd", 1}, {sync(), 0, "abcd", 4}},
		{{add("abcd"), 0, "abcd", 0}, {add("e"), api.ErrFull, "abcd", 0}, {sync(), 0, "abcd", 4}},
		{{swap("ab"), 0, "ab", 2}, {add("c"), 0, "abc", 2}, {sync(), 0, "abc", 3}},
		{{add("ab"), 0, "ab", 0}, {fail(0), 0, "ab", 0}, {sync(), api.ErrDown, "ab", 0}, {crash(0), 0, "", 0}},
	} {
		run(t, 4, steps)
	}
}

func TestSwap(t *testing.T) {
	for _, steps := range [][]step{
		{{swap("ab"), 0, "ab", 2}, {swap("c"), 0, "c", 1}, {swap("def"), 0, "def", 3}},
		{{swap(""), 0, "", 0}, {add("ab"), 0, "ab", 0}, {swap(""), 0, "", 0}, {swap("c"), 0, "c", 1}, {swap(""), 0, "", 0}},
		{{add("ab"), 0, "ab", 0}, {sync(), 0, "ab", 2}, {add("c"), 0, "abc", 2}, {swap("xy"), 0, "xy", 2}, {add("z"), 0, "xyz", 2}},
		// Of just as many bytes as there is room for, whatever was there, and of
		// one more.
		{{swap("abcd"), 0, "abcd", 4}, {swap("efgh"), 0, "efgh", 4}, {swap("abcde"), api.ErrFull, "efgh", 4}},
		{{swap("abcde"), api.ErrFull, "", 0}, {swap("abcd"), 0, "abcd", 4}, {add("e"), api.ErrFull, "abcd", 4}},
		{{add("abc"), 0, "abc", 0}, {swap("defg"), 0, "defg", 4}, {swap(""), 0, "", 0}, {add("defg"), 0, "defg", 0}, {swap("abcde"), api.ErrFull, "defg", 0}},
		// ErrDown comes first.
		{{add("a"), 0, "a", 0}, {fail(0), 0, "a", 0}, {swap("abcde"), api.ErrDown, "a", 0}, {swap("abcd"), api.ErrDown, "a", 0}, {swap(""), api.ErrDown, "a", 0}},
	} {
		run(t, 4, steps)
	}
}

func TestNilIsNothing(t *testing.T) {
	d := made(t, 1)
	if e := d.Append(nil); e != api.OK {
		t.Errorf("Append(nil): error %d", e)
	}
	holds(t, d, "", 0)
	d.Append([]byte("a"))
	if e := d.Append(nil); e != api.OK {
		t.Errorf("Append(nil) of a full disk: error %d", e)
	}
	holds(t, d, "a", 0)
	if e := d.Swap(nil); e != api.OK {
		t.Errorf("Swap(nil): error %d", e)
	}
	holds(t, d, "", 0)
	d.Fail(0)
	if a, b := d.Append(nil), d.Swap(nil); a != api.ErrDown || b != api.ErrDown {
		t.Errorf("of a disk that fails: errors %d, %d", a, b)
	}
}

func TestTheGreatestRoom(t *testing.T) {
	all := strings.Repeat("0123456789abcdef", api.MaxDisk/16)
	d := made(t, api.MaxDisk)
	for i := range len(all) {
		if e := d.Append([]byte{all[i]}); e != api.OK {
			t.Fatalf("byte %d: error %d", i, e)
		}
	}
	holds(t, d, all, 0)
	if a, b := d.Append([]byte("x")), d.Append([]byte(all)); a != api.ErrFull || b != api.ErrFull {
		t.Errorf("Append of more: errors %d, %d", a, b)
	}
	if e := d.Swap([]byte(all + "x")); e != api.ErrFull {
		t.Errorf("Swap of one more: error %d", e)
	}
	holds(t, d, all, 0)
	d.Crash(api.MaxDisk - 1)
	holds(t, d, all[:api.MaxDisk-1], api.MaxDisk-1)
	if e := d.Swap([]byte(all)); e != api.OK {
		t.Errorf("Swap of all: error %d", e)
	}
	holds(t, d, all, api.MaxDisk)
}

// P8.3

func TestReadOfEachByte(t *testing.T) {
	d := made(t, 256)
	var all []byte
	for n := range 256 {
		all = append(all, byte(n))
		if e := d.Append([]byte{byte(n)}); e != api.OK {
			t.Fatalf("byte %d: error %d", n, e)
		}
		holds(t, d, string(all), n)
		d.Sync()
		holds(t, d, string(all), n+1)
	}
}

func TestCrash(t *testing.T) {
	for _, c := range []struct {
		durable, after string
		keep           int
		want           string
	}{
		{"", "", -1, ""}, {"", "", 0, ""}, {"", "", 1, ""}, {"", "", math.MinInt, ""}, {"", "", math.MaxInt, ""},
		{"ab", "", -1, "ab"}, {"ab", "", 0, "ab"}, {"ab", "", 1, "ab"}, {"ab", "", math.MinInt, "ab"}, {"ab", "", math.MaxInt, "ab"},
		{"ab", "cde", -1, "ab"}, {"ab", "cde", 0, "ab"}, {"ab", "cde", 1, "abc"}, {"ab", "cde", 2, "abcd"}, {"ab", "cde", 3, "abcde"}, {"ab", "cde", 4, "abcde"},
		{"ab", "cde", -2, "ab"}, {"ab", "cde", -3, "ab"}, {"ab", "cde", 5, "abcde"}, {"ab", "cde", 6, "abcde"}, {"ab", "cde", api.MaxDisk, "abcde"},
		{"ab", "cde", math.MinInt, "ab"}, {"ab", "cde", math.MinInt + 1, "ab"}, {"ab", "cde", math.MinInt + 2, "ab"},
		{"ab", "cde", math.MaxInt, "abcde"}, {"ab", "cde", math.MaxInt - 1, "abcde"}, {"ab", "cde", math.MaxInt - 2, "abcde"},
		{"ab", "cde", 1 << 32, "abcde"}, {"ab", "cde", -1 << 32, "ab"}, {"ab", "cde", 1<<32 + 1, "abcde"},
		{"", "cde", -1, ""}, {"", "cde", 0, ""}, {"", "cde", 1, "c"}, {"", "cde", 3, "cde"}, {"", "cde", 4, "cde"}, {"", "cde", math.MaxInt, "cde"},
	} {
		d := made(t, 5)
		d.Append([]byte(c.durable))
		d.Sync()
		d.Append([]byte(c.after))
		d.Crash(c.keep)
		if got := string(d.Read()); got != c.want || d.Lasts() != len(c.want) {
			t.Errorf("Crash(%d) of %q and %q: %q, %d of them durable; want %q", c.keep, c.durable, c.after, got, d.Lasts(), c.want)
		}
	}
}

func TestCrashAmongOthers(t *testing.T) {
	for _, steps := range [][]step{
		// The chapter's example.
		{{add("\x01"), 0, "\x01", 0}, {sync(), 0, "\x01", 1}, {add("\x02\x03"), 0, "\x01\x02\x03", 1}, {crash(1), 0, "\x01\x02", 2}},
		// Behind Sync, behind Swap, and on an empty disk.
		{{add("ab"), 0, "ab", 0}, {sync(), 0, "ab", 2}, {crash(0), 0, "ab", 2}, {crash(-1), 0, "ab", 2}},
		{{add("a"), 0, "a", 0}, {swap("bc"), 0, "bc", 2}, {crash(0), 0, "bc", 2}},
		{{swap("bc"), 0, "bc", 2}, {add("d"), 0, "bcd", 2}, {crash(0), 0, "bc", 2}},
		{{add("ab"), 0, "ab", 0}, {sync(), 0, "ab", 2}, {swap(""), 0, "", 0}, {crash(2), 0, "", 0}},
		{{crash(0), 0, "", 0}, {crash(5), 0, "", 0}, {add("a"), 0, "a", 0}, {crash(1), 0, "a", 1}},
		// What is kept is durable: another crash changes nothing.
		{{add("abc"), 0, "abc", 0}, {crash(2), 0, "ab", 2}, {crash(0), 0, "ab", 2}, {crash(9), 0, "ab", 2}, {sync(), 0, "ab", 2}},
		// What is lost does not come back.
		{{add("abc"), 0, "abc", 0}, {crash(1), 0, "a", 1}, {add("x"), 0, "ax", 1}, {crash(9), 0, "ax", 2}, {add(""), 0, "ax", 2}, {crash(9), 0, "ax", 2}},
		// No change fails any more.
		{{fail(0), 0, "", 0}, {add("a"), api.ErrDown, "", 0}, {crash(0), 0, "", 0}, {add("a"), 0, "a", 0}, {sync(), 0, "a", 1}, {swap("b"), 0, "b", 1}},
		{{fail(2), 0, "", 0}, {add("a"), 0, "a", 0}, {crash(1), 0, "a", 1}, {add("b"), 0, "ab", 1}, {add("c"), 0, "abc", 1}, {sync(), 0, "abc", 3}},
		{{fail(0), 0, "", 0}, {crash(-1), 0, "", 0}, {add("a"), 0, "a", 0}, {add("b"), 0, "ab", 0}, {sync(), 0, "ab", 2}},
		{{fail(1), 0, "", 0}, {crash(0), 0, "", 0}, {fail(1), 0, "", 0}, {add("a"), 0, "a", 0}, {sync(), api.ErrDown, "a", 0}},
		// What failed, or had no room, is not there after it.
		{{add("a"), 0, "a", 0}, {fail(0), 0, "a", 0}, {add("b"), api.ErrDown, "a", 0}, {swap("c"), api.ErrDown, "a", 0}, {crash(9), 0, "a", 1}},
		{{add("abcd"), 0, "abcd", 0}, {add("e"), api.ErrFull, "abcd", 0}, {swap("123456"), api.ErrFull, "abcd", 0}, {crash(2), 0, "ab", 2}},
		// Crash and Read of a disk that fails.
		{{add("ab"), 0, "ab", 0}, {sync(), 0, "ab", 2}, {add("cd"), 0, "abcd", 2}, {fail(0), 0, "abcd", 2}, {crash(1), 0, "abc", 3}, {sync(), 0, "abc", 3}},
	} {
		run(t, 4, steps)
	}
}

// P8.1 to P8.4, against the model

func TestAllShortRuns(t *testing.T) {
	all := []deed{
		add(""), add("a"), add("bc"), add("def"), sync(), swap(""), swap("x"), swap("yz"), swap("123"),
		fail(-1), fail(0), fail(1), fail(2), crash(-1), crash(0), crash(1), crash(2),
	}
	var extend func(deeds []deed, more int)
	extend = func(deeds []deed, more int) {
		if more == 0 {
			same(t, 2, deeds)
			return
		}
		for _, x := range all {
			extend(append(deeds[:len(deeds):len(deeds)], x), more-1)
		}
	}
	extend(nil, 4)
}

func TestRandomRuns(t *testing.T) {
	r := rand.New(rand.NewSource(1))
	for range 5000 {
		room := 1 + r.Intn(12)
		same(t, room, anyDeeds(r, room, 60))
	}
	for range 20 {
		room := 1 + r.Intn(3000)
		same(t, room, anyDeeds(r, room, 200))
	}
}

// P8.4

// crashes does deeds on a new disk, and then Crash(keep): the disk must contain
// what was durable, and a prefix of what was appended after that. What was
// appended, and what is durable, is by the answers that the disk gave.
func crashes(t *testing.T, room int, deeds []deed, keep int) {
	t.Helper()
	d := made(t, room)
	var durable, after string
	for _, x := range deeds {
		bytes, lasts := string(d.Read()), d.Lasts()
		e := do(d, x)
		now := string(d.Read())
		switch {
		case e != api.OK:
			holds(t, d, bytes, lasts)
		case x.call == "Append":
			after += x.bytes
		case x.call == "Sync":
			durable, after = durable+after, ""
		case x.call == "Swap":
			durable, after = x.bytes, ""
		case x.call == "Crash":
			kept(t, now, durable, after)
			durable, after = now, ""
		}
		if len(now) > room {
			t.Fatalf("room %d: %d bytes after %v of %v", room, len(now), x, deeds)
		}
	}
	d.Crash(keep)
	got := string(d.Read())
	kept(t, got, durable, after)
	if want := len(durable) + min(max(keep, 0), len(after)); len(got) != want || d.Lasts() != want {
		t.Fatalf("Crash(%d) behind %v: %d bytes, %d of them durable; want %d", keep, deeds, len(got), d.Lasts(), want)
	}
}

// kept checks the bytes after a crash.
func kept(t *testing.T, got, durable, after string) {
	t.Helper()
	if !strings.HasPrefix(got, durable) || !strings.HasPrefix(durable+after, got) {
		t.Fatalf("after a crash %q, of %q that was durable, and %q after it", got, durable, after)
	}
}

func TestAnyCrash(t *testing.T) {
	r := rand.New(rand.NewSource(2))
	for range 100 {
		room := 1 + r.Intn(8)
		deeds := anyDeeds(r, room, 30)
		for cut := range len(deeds) + 1 {
			for keep := -1; keep <= room+1; keep++ {
				crashes(t, room, deeds[:cut], keep)
			}
			crashes(t, room, deeds[:cut], math.MinInt)
			crashes(t, room, deeds[:cut], math.MaxInt)
		}
	}
}

// R3: bytes are separated.

func TestBytesThatWereHandedInMayChange(t *testing.T) {
	for _, call := range []func(*disk.Disk, []byte) api.Errno{(*disk.Disk).Append, (*disk.Disk).Swap} {
		d := made(t, 8)
		b := []byte("abcdefgh")[:3]
		if e := call(d, b); e != api.OK {
			t.Fatalf("error %d", e)
		}
		lasts := d.Lasts()
		b[0], b[2] = 'x', 'y'
		holds(t, d, "abc", lasts)
		// The disk writes nothing behind b, where b's memory goes on.
		d.Append([]byte("123"))
		if whole := string(b[:8]); whole != "xbydefgh" {
			t.Errorf("the caller's bytes are %q", whole)
		}
		clear(b[:8])
		holds(t, d, "abc123", lasts)
		d.Crash(2)
		d.Append([]byte("4"))
		if whole := string(b[:8]); whole != "\x00\x00\x00\x00\x00\x00\x00\x00" {
			t.Errorf("the caller's bytes are %q", whole)
		}
	}
}

func TestBytesOfASecondAppendMayChange(t *testing.T) {
	d := made(t, 64)
	b := []byte("ab")
	for i := range 20 {
		b[0], b[1] = byte(i), byte(i+100)
		d.Append(b)
	}
	clear(b)
	for i, c := range d.Read() {
		if want := byte(i/2 + i%2*100); c != want {
			t.Errorf("byte %d is %d, want %d", i, c, want)
		}
	}
}

func TestBytesOfReadMayChange(t *testing.T) {
	d := made(t, 8)
	d.Append([]byte("ab"))
	d.Sync()
	d.Append([]byte("cd"))
	one, other := d.Read(), d.Read()
	one[0], one[3] = 'x', 'y'
	_ = append(one, "123"...)
	clear(one[len(one):cap(one)])
	if string(other) != "abcd" {
		t.Errorf("the other bytes that Read returned are %q", other)
	}
	holds(t, d, "abcd", 2)
	d.Append([]byte("ef"))
	holds(t, d, "abcdef", 2)
	d.Crash(0)
	d.Append([]byte("gh"))
	d.Swap([]byte("1234"))
	if string(one) != "xbcy" || string(other) != "abcd" {
		t.Errorf("the bytes that Read returned are %q, %q", one, other)
	}
	holds(t, d, "1234", 4)
}

func TestBytesOfOneDiskToAnother(t *testing.T) {
	one, other := made(t, 4), made(t, 4)
	one.Append([]byte("abc"))
	other.Swap(one.Read())
	one.Crash(1)
	one.Append([]byte("xyz"))
	holds(t, other, "abc", 3)
	other.Append([]byte("d"))
	holds(t, one, "axyz", 1)
	one.Append(one.Read()[:0])
	one.Swap(one.Read()[1:])
	holds(t, one, "xyz", 3)
}

func TestArgumentsAreNotModified(t *testing.T) {
	d := made(t, 4)
	for _, s := range []string{"", "a", "abcd", "abcde"} {
		for _, in := range []int{-1, 0} {
			d.Fail(in)
			b := []byte(s + "rest")[:len(s)]
			d.Append(b)
			d.Swap(b)
			d.Append(b)
			d.Crash(1)
			d.Append([]byte("z"))
			if got := string(b[:len(s)+4]); got != s+"rest" {
				t.Errorf("%q is %q", s+"rest", got)
			}
		}
	}
}

// R4: a disk keeps its own state alone.

func TestDisksAreApart(t *testing.T) {
	one, other := made(t, 2), made(t, 4)
	one.Fail(0)
	if e := other.Append([]byte("abcd")); e != api.OK {
		t.Errorf("error %d", e)
	}
	other.Fail(1)
	one.Crash(0)
	if a, b := one.Append([]byte("ab")), one.Append([]byte("c")); a != api.OK || b != api.ErrFull {
		t.Errorf("errors %d, %d", a, b)
	}
	holds(t, one, "ab", 0)
	if a, b := other.Sync(), other.Sync(); a != api.OK || b != api.ErrDown {
		t.Errorf("errors %d, %d", a, b)
	}
	holds(t, one, "ab", 0)
	holds(t, other, "abcd", 4)
}

// FuzzDisk takes a byte for the room, and then two for each deed.
func FuzzDisk(f *testing.F) {
	f.Add([]byte{4, 0, 1, 1, 0, 0, 2, 0, 2, 4, 2, 2, 1, 3, 2, 0, 1, 1, 0, 0, 0, 4, 0, 1, 0})
	f.Add([]byte{2, 2, 3, 3, 1, 0, 0, 1, 0, 4, 5})
	f.Fuzz(func(t *testing.T, code []byte) {
		if len(code) == 0 {
			return
		}
		var deeds []deed
		for i := 1; i+1 < len(code); i += 2 {
			n := int(code[i+1])
			text := strings.Repeat(string(rune('a'+i%26)), n)
			deeds = append(deeds, []deed{add(text), sync(), swap(text), fail(n - 1), crash(n - 1)}[code[i]%5])
		}
		same(t, int(code[0])+1, deeds)
	})
}
