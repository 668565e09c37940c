package net_test

import (
	"bytes"
	"fmt"
	"math"
	"slices"
	"strings"
	"testing"

	"lessor/api"
	"lessor/net"
)

// deed is a call of a network's: of Put with bytes, of Take, Copy or Lose with an
// index, or of Cut with what is to be.
type deed struct {
	call  string
	to    int
	at    int
	bytes string
	is    bool
}

func (x deed) String() string {
	switch x.call {
	case "Put":
		return fmt.Sprintf("Put(%d, %.20q)", x.to, x.bytes)
	case "Cut":
		return fmt.Sprintf("Cut(%t)", x.is)
	}
	return fmt.Sprintf("%s(%d, %d)", x.call, x.to, x.at)
}

func put(to int, b string) deed { return deed{call: "Put", to: to, bytes: b} }
func take(to, at int) deed      { return deed{call: "Take", to: to, at: at} }
func double(to, at int) deed    { return deed{call: "Copy", to: to, at: at} }
func lose(to, at int) deed      { return deed{call: "Lose", to: to, at: at} }
func cut(is bool) deed          { return deed{call: "Cut", is: is} }

// do does a deed, and returns what was taken; Cut, which has no error, answers OK.
func do(n *net.Net, x deed) (string, api.Errno) {
	switch x.call {
	case "Put":
		return "", n.Put(x.to, []byte(x.bytes))
	case "Take":
		b, e := n.Take(x.to, x.at)
		return string(b), e
	case "Copy":
		return "", n.Copy(x.to, x.at)
	case "Lose":
		return "", n.Lose(x.to, x.at)
	}
	n.Cut(x.is)
	return "", api.OK
}

// made is a new network, on which deeds were done, one after the other.
func made(t *testing.T, room int, deeds ...deed) *net.Net {
	t.Helper()
	n, e := net.New(room)
	if e != api.OK || n == nil {
		t.Fatalf("New(%d): error %d", room, e)
	}
	for _, x := range deeds {
		do(n, x)
	}
	return n
}

// lists are the messages in transit to both servers.
type lists [2][]string

// drained takes all messages of a network.
func drained(t *testing.T, n *net.Net) lists {
	t.Helper()
	var l lists
	for to := range l {
		for range n.Len(to) {
			b, e := n.Take(to, 0)
			if e != api.OK {
				t.Fatalf("Take(%d, 0) behind %q: error %d", to, l, e)
			}
			l[to] = append(l[to], string(b))
		}
		if n.Len(to) != 0 {
			t.Fatalf("Len(%d) is %d, though all was taken", to, n.Len(to))
		}
	}
	return l
}

// same tells whether lists are equal.
func same(a, b lists) bool {
	return slices.Equal(a[0], b[0]) && slices.Equal(a[1], b[1])
}

// step is a deed, and what is to come of it: its error, what is taken, and the
// lists behind it.
type step struct {
	deed
	e     api.Errno
	taken string
	lists lists
}

// run does steps, one after the other. The lists behind each are looked at on
// another network on which the same was done, as they are emptied by that.
func run(t *testing.T, room int, steps []step) {
	t.Helper()
	n := made(t, room)
	var done []deed
	for i, s := range steps {
		taken, e := do(n, s.deed)
		if e != s.e || taken != s.taken {
			t.Fatalf("step %d, %v: %.20q, error %d; want %.20q, error %d", i, s.deed, taken, e, s.taken, s.e)
		}
		for to, l := range s.lists {
			if n.Len(to) != len(l) {
				t.Fatalf("step %d, %v: Len(%d) is %d, want %d", i, s.deed, to, n.Len(to), len(l))
			}
		}
		done = append(done, s.deed)
		if l := drained(t, made(t, room, done...)); !same(l, s.lists) {
			t.Fatalf("step %d, %v: the lists are %q, want %q", i, s.deed, l, s.lists)
		}
	}
	if l := drained(t, n); !same(l, steps[len(steps)-1].lists) {
		t.Fatalf("in the end the lists are %q, want %q", l, steps[len(steps)-1].lists)
	}
}

// abc are messages to server 0.
func abc(l ...string) lists { return lists{l, nil} }

// full is a network with room for n messages to each server, with the messages
// "0", "1" and so on to server 0, and the messages "a0", "a1" and so on to server 1.
func full(t *testing.T, n int) (*net.Net, lists) {
	t.Helper()
	f := made(t, n)
	var l lists
	for to, before := range []string{"", "a"} {
		for i := range n {
			b := fmt.Sprint(before, i)
			if e := f.Put(to, []byte(b)); e != api.OK {
				t.Fatalf("Put(%d, %s): error %d", to, b, e)
			}
			l[to] = append(l[to], b)
		}
	}
	return f, l
}

// numbers are no servers, and no indices of a list.
var numbers = []int{-1, -2, math.MinInt, math.MaxInt, math.MinInt + 1, -1 << 32, 1 << 32, 1<<32 + 1, -1 << 63, 1 << 31, 1001}

// P22.1: New.
func TestNew(t *testing.T) {
	for _, room := range []int{1, 2, 3, 255, 256, 999, 1000} {
		n := made(t, room)
		if n.Len(0) != 0 || n.Len(1) != 0 {
			t.Errorf("New(%d) has %d and %d messages", room, n.Len(0), n.Len(1))
		}
		if e := n.Put(0, nil); e != api.OK {
			t.Errorf("New(%d) is cut: error %d", room, e)
		}
	}
	for _, room := range append([]int{0, 1001, 1002, 2000, 1 << 20}, numbers...) {
		if n, e := net.New(room); n != nil || e != api.ErrArg {
			t.Errorf("New(%d): %v, error %d", room, n, e)
		}
	}
}

// P22.1: New: there is room for this many messages in each list.
func TestRoom(t *testing.T) {
	for _, room := range []int{1, 2, 3, 10, 999, 1000} {
		n, l := full(t, room)
		for to := range l {
			if e := n.Put(to, []byte("x")); e != api.ErrFull {
				t.Errorf("room %d: Put(%d) behind so many: error %d", room, to, e)
			}
			if e := n.Copy(to, 0); e != api.ErrFull {
				t.Errorf("room %d: Copy(%d, 0) behind so many: error %d", room, to, e)
			}
			if n.Len(to) != room {
				t.Errorf("room %d: Len(%d) is %d", room, to, n.Len(to))
			}
		}
		if got := drained(t, n); !same(got, l) {
			t.Errorf("room %d: the lists are not as they were put", room)
		}
	}
}

// P22.1: two networks have nothing in common.
func TestTwoNetworks(t *testing.T) {
	a, b := made(t, 2), made(t, 1)
	a.Put(0, []byte("a"))
	b.Put(0, []byte("b"))
	b.Cut(true)
	if e := a.Put(0, []byte("c")); e != api.OK {
		t.Errorf("a Put where the other network is cut: error %d", e)
	}
	if l := drained(t, a); !same(l, abc("a", "c")) {
		t.Errorf("the one has %q", l)
	}
	if l := drained(t, b); !same(l, abc("b")) {
		t.Errorf("the other one has %q", l)
	}
}

// P22.1: Put, in its order.
func TestPut(t *testing.T) {
	long := strings.Repeat("long", 100000)
	run(t, 3, []step{
		{put(0, "a"), api.OK, "", abc("a")},
		{put(0, "b"), api.OK, "", abc("a", "b")},
		{put(1, "c"), api.OK, "", lists{{"a", "b"}, {"c"}}},
		{put(0, ""), api.OK, "", lists{{"a", "b", ""}, {"c"}}},
		{put(0, "d"), api.ErrFull, "", lists{{"a", "b", ""}, {"c"}}},
		{put(1, long), api.OK, "", lists{{"a", "b", ""}, {"c", long}}},
		{put(1, "c"), api.OK, "", lists{{"a", "b", ""}, {"c", long, "c"}}},
		{put(1, ""), api.ErrFull, "", lists{{"a", "b", ""}, {"c", long, "c"}}},
		{take(1, 1), api.OK, long, lists{{"a", "b", ""}, {"c", "c"}}},
		{put(1, "e"), api.OK, "", lists{{"a", "b", ""}, {"c", "c", "e"}}},
		{put(0, "e"), api.ErrFull, "", lists{{"a", "b", ""}, {"c", "c", "e"}}},
	})
}

// P22.1 and R2: a message is bytes of any number; nil is an empty one.
func TestPutBytes(t *testing.T) {
	long := bytes.Repeat([]byte{0, 1, 255}, 1<<20)
	for _, b := range [][]byte{nil, {}, {0}, {255}, []byte("ab"), make([]byte, 1000), make([]byte, 1001), long} {
		n := made(t, 1)
		if e := n.Put(1, b); e != api.OK || n.Len(1) != 1 || n.Len(0) != 0 {
			t.Errorf("Put of %d bytes: error %d", len(b), e)
		}
		if got, e := n.Take(1, 0); e != api.OK || !bytes.Equal(got, b) {
			t.Errorf("of %d bytes, %d are taken, error %d", len(b), len(got), e)
		}
	}
}

// P22.1: the errors of Put, in their order.
func TestPutErrors(t *testing.T) {
	for _, c := range []struct {
		to       int
		cut, all bool
		e        api.Errno
	}{
		{0, false, false, api.OK}, {1, false, false, api.OK},
		{0, false, true, api.ErrFull}, {1, false, true, api.ErrFull},
		{0, true, false, api.ErrDown}, {1, true, false, api.ErrDown},
		{0, true, true, api.ErrDown}, {1, true, true, api.ErrDown},
		{-1, false, false, api.ErrArg}, {2, false, false, api.ErrArg},
		{-1, false, true, api.ErrArg}, {2, false, true, api.ErrArg},
		{-1, true, false, api.ErrArg}, {2, true, false, api.ErrArg},
		{-1, true, true, api.ErrArg}, {2, true, true, api.ErrArg},
	} {
		n, l := full(t, 3)
		if !c.all {
			l = lists{l[0][:2], l[1][:2]}
			n.Lose(0, 2)
			n.Lose(1, 2)
		}
		n.Cut(c.cut)
		if e := n.Put(c.to, []byte("x")); e != c.e {
			t.Errorf("%+v: error %d", c, e)
		}
		if c.e == api.OK {
			l[c.to] = append(l[c.to], "x")
		}
		if got := drained(t, n); !same(got, l) {
			t.Errorf("%+v: the lists are %q, want %q", c, got, l)
		}
	}
}

// P22.1: Take of the oldest message, of the newest one, and of one in between.
func TestTake(t *testing.T) {
	run(t, 3, []step{
		{put(0, "a"), api.OK, "", abc("a")},
		{put(0, "b"), api.OK, "", abc("a", "b")},
		{take(0, 1), api.OK, "b", abc("a")},
		{take(0, 1), api.ErrNone, "", abc("a")},
		{take(1, 0), api.ErrNone, "", abc("a")},
		{take(0, 0), api.OK, "a", abc()},
		{take(0, 0), api.ErrNone, "", abc()},
	})
	for at := range 5 {
		n, l := full(t, 5)
		b, e := n.Take(0, at)
		if e != api.OK || string(b) != l[0][at] {
			t.Errorf("Take(0, %d): %q, error %d", at, b, e)
		}
		l[0] = slices.Delete(l[0], at, at+1)
		if got := drained(t, n); !same(got, l) {
			t.Errorf("behind Take(0, %d) the lists are %q, want %q", at, got, l)
		}
	}
}

// P22.1: Copy appends, and does not touch the message that is copied; the copy may
// be taken apart from it.
func TestCopy(t *testing.T) {
	run(t, 4, []step{
		{double(0, 0), api.ErrNone, "", abc()},
		{put(0, "a"), api.OK, "", abc("a")},
		{put(0, "b"), api.OK, "", abc("a", "b")},
		{double(0, 0), api.OK, "", abc("a", "b", "a")},
		{take(0, 2), api.OK, "a", abc("a", "b")},
		{double(0, 1), api.OK, "", abc("a", "b", "b")},
		{take(0, 1), api.OK, "b", abc("a", "b")},
		{double(0, 0), api.OK, "", abc("a", "b", "a")},
		{double(0, 2), api.OK, "", abc("a", "b", "a", "a")},
		{double(0, 1), api.ErrFull, "", abc("a", "b", "a", "a")},
		{double(1, 0), api.ErrNone, "", abc("a", "b", "a", "a")},
		{take(0, 0), api.OK, "a", abc("b", "a", "a")},
		{take(0, 1), api.OK, "a", abc("b", "a")},
		{take(0, 1), api.OK, "a", abc("b")},
		{put(1, ""), api.OK, "", lists{{"b"}, {""}}},
		{double(1, 0), api.OK, "", lists{{"b"}, {"", ""}}},
		{take(1, 1), api.OK, "", lists{{"b"}, {""}}},
	})
}

// P22.1: the errors of Copy, in their order: where the list is full, and there is
// no such message; the network may be cut.
func TestCopyErrors(t *testing.T) {
	for _, cut := range []bool{false, true} {
		for _, c := range []struct {
			to, at int
			e      api.Errno
		}{
			{0, -1, api.ErrNone}, {0, 0, api.ErrFull}, {0, 1, api.ErrFull}, {0, 2, api.ErrFull}, {0, 3, api.ErrNone},
			{1, -1, api.ErrNone}, {1, 0, api.ErrFull}, {1, 1, api.ErrFull}, {1, 2, api.ErrFull}, {1, 3, api.ErrNone},
			{-1, -1, api.ErrArg}, {-1, 0, api.ErrArg}, {-1, 3, api.ErrArg}, {2, -1, api.ErrArg}, {2, 2, api.ErrArg}, {2, 3, api.ErrArg},
		} {
			n, l := full(t, 3)
			n.Cut(cut)
			if e := n.Copy(c.to, c.at); e != c.e {
				t.Errorf("cut %t, %+v: error %d", cut, c, e)
			}
			if got := drained(t, n); !same(got, l) {
				t.Errorf("cut %t, %+v: the lists are %q, want %q", cut, c, got, l)
			}
		}
	}
}

// P22.1: Lose of the oldest message, of the newest one, and of one in between.
func TestLose(t *testing.T) {
	run(t, 3, []step{
		{lose(0, 0), api.ErrNone, "", abc()},
		{put(0, "a"), api.OK, "", abc("a")},
		{put(0, "b"), api.OK, "", abc("a", "b")},
		{put(1, "c"), api.OK, "", lists{{"a", "b"}, {"c"}}},
		{lose(0, 0), api.OK, "", lists{{"b"}, {"c"}}},
		{lose(0, 1), api.ErrNone, "", lists{{"b"}, {"c"}}},
		{lose(1, 0), api.OK, "", abc("b")},
		{lose(1, 0), api.ErrNone, "", abc("b")},
		{lose(0, 0), api.OK, "", abc()},
	})
	for at := range 5 {
		n, l := full(t, 5)
		if e := n.Lose(1, at); e != api.OK {
			t.Errorf("Lose(1, %d): error %d", at, e)
		}
		l[1] = slices.Delete(l[1], at, at+1)
		if got := drained(t, n); !same(got, l) {
			t.Errorf("behind Lose(1, %d) the lists are %q, want %q", at, got, l)
		}
	}
}

// P22.1: Take, Copy and Lose at -1, 0, the last index and one beyond it, of a list
// that is empty, has one message, has several, and is full; of server 0, 1, and
// none.
func TestIndices(t *testing.T) {
	const room = 4
	for _, count := range []int{0, 1, 3, room} {
		for _, to := range append([]int{0, 1, 2}, numbers...) {
			for _, at := range append([]int{0, count - 1, count, count + 1}, numbers...) {
				for _, call := range []string{"Take", "Copy", "Lose"} {
					oneOf(t, room, count, deed{call: call, to: to, at: at})
				}
			}
		}
	}
}

// oneOf does one deed on a network with so many messages to each server, and holds
// what comes of it against the document's words.
func oneOf(t *testing.T, room, count int, x deed) {
	t.Helper()
	n, l := full(t, room)
	for to := range l {
		for n.Len(to) > count {
			n.Lose(to, count)
		}
		l[to] = l[to][:count]
	}
	want, taken := api.OK, ""
	switch {
	case x.to != 0 && x.to != 1:
		want = api.ErrArg
	case x.at < 0 || x.at >= count:
		want = api.ErrNone
	case x.call == "Copy" && count == room:
		want = api.ErrFull
	case x.call == "Copy":
		l[x.to] = append(l[x.to], l[x.to][x.at])
	default:
		if x.call == "Take" {
			taken = l[x.to][x.at]
		}
		l[x.to] = slices.Delete(l[x.to], x.at, x.at+1)
	}
	if got, e := do(n, x); got != taken || e != want {
		t.Errorf("%v of %d: %q, error %d; want %q, error %d", x, count, got, e, taken, want)
	}
	if got := drained(t, n); !same(got, l) {
		t.Errorf("%v of %d: the lists are %q, want %q", x, count, got, l)
	}
}

// P22.2: Cut: Put is rejected, what is in transit remains, and may be taken, copied
// and lost.
func TestCut(t *testing.T) {
	run(t, 3, []step{
		{put(0, "a"), api.OK, "", abc("a")},
		{put(1, "b"), api.OK, "", lists{{"a"}, {"b"}}},
		{cut(true), api.OK, "", lists{{"a"}, {"b"}}},
		{put(0, "c"), api.ErrDown, "", lists{{"a"}, {"b"}}},
		{put(1, "c"), api.ErrDown, "", lists{{"a"}, {"b"}}},
		{put(2, "c"), api.ErrArg, "", lists{{"a"}, {"b"}}},
		{double(0, 0), api.OK, "", lists{{"a", "a"}, {"b"}}},
		{take(0, 1), api.OK, "a", lists{{"a"}, {"b"}}},
		{lose(1, 0), api.OK, "", abc("a")},
		{cut(true), api.OK, "", abc("a")},
		{put(0, ""), api.ErrDown, "", abc("a")},
		{cut(false), api.OK, "", abc("a")},
		{put(0, "c"), api.OK, "", abc("a", "c")},
		{put(1, "d"), api.OK, "", lists{{"a", "c"}, {"d"}}},
		{cut(false), api.OK, "", lists{{"a", "c"}, {"d"}}},
		{put(1, "e"), api.OK, "", lists{{"a", "c"}, {"d", "e"}}},
		{cut(true), api.OK, "", lists{{"a", "c"}, {"d", "e"}}},
		{cut(false), api.OK, "", lists{{"a", "c"}, {"d", "e"}}},
		{cut(true), api.OK, "", lists{{"a", "c"}, {"d", "e"}}},
		{put(1, "f"), api.ErrDown, "", lists{{"a", "c"}, {"d", "e"}}},
		{take(1, 0), api.OK, "d", lists{{"a", "c"}, {"e"}}},
	})
	run(t, 2, []step{
		{cut(false), api.OK, "", abc()},
		{put(0, "a"), api.OK, "", abc("a")},
		{cut(true), api.OK, "", abc("a")},
		{take(0, 0), api.OK, "a", abc()},
		{put(0, "b"), api.ErrDown, "", abc()},
		{take(0, 0), api.ErrNone, "", abc()},
		{cut(false), api.OK, "", abc()},
		{put(0, "c"), api.OK, "", abc("c")},
	})
}

// P22.2: Len.
func TestLen(t *testing.T) {
	n := made(t, 5)
	counts := func(a, b int) {
		t.Helper()
		for to, want := range []int{a, b} {
			if got := n.Len(to); got != want {
				t.Errorf("Len(%d) is %d, want %d", to, got, want)
			}
		}
		for _, to := range append([]int{2, 3}, numbers...) {
			if got := n.Len(to); got != 0 {
				t.Errorf("Len(%d) is %d", to, got)
			}
		}
	}
	counts(0, 0)
	n.Put(0, nil)
	counts(1, 0)
	n.Put(1, []byte("ab"))
	counts(1, 1)
	n.Copy(1, 0)
	n.Copy(1, 0)
	counts(1, 3)
	n.Cut(true)
	counts(1, 3)
	n.Put(0, nil)
	counts(1, 3)
	n.Take(1, 1)
	counts(1, 2)
	n.Lose(0, 0)
	counts(0, 2)
	n.Cut(false)
	counts(0, 2)
}

// P22.1 and R3: bytes that are put are not modified, and may be changed.
func TestPutMemory(t *testing.T) {
	memory := []byte("..abc..")
	b := memory[2:5]
	n := made(t, 3)
	n.Put(0, b)
	n.Put(0, b)
	n.Put(1, b)
	if string(memory) != "..abc.." {
		t.Errorf("the bytes that are put are %q", memory)
	}
	copy(memory, "XXXXXXX")
	if got := drained(t, n); !same(got, lists{{"abc", "abc"}, {"abc"}}) {
		t.Errorf("with other bytes where those are that were put, the lists are %q", got)
	}
	if string(memory) != "XXXXXXX" {
		t.Errorf("the bytes that were put are %q", memory)
	}
}

// P22.1 and R3: bytes that were taken belong to the caller, be they overwritten, or
// appended to; a copy shares no memory with its message.
func TestTakenMemory(t *testing.T) {
	spoil := func(b []byte) {
		for i := range b[:cap(b)] {
			b[:cap(b)][i] = 'X'
		}
	}
	for at := range 4 {
		n := made(t, 5, put(0, "abc"), put(0, "abd"), put(1, "abe"), double(0, 0), double(0, 1), double(1, 0))
		want := lists{{"abc", "abd", "abc", "abd"}, {"abe", "abe"}}
		b, _ := n.Take(0, at)
		spoil(b)
		c, _ := n.Take(1, at%2)
		spoil(c)
		want[0] = slices.Delete(want[0], at, at+1)
		want[1] = want[1][:1]
		n.Put(0, b)
		n.Copy(0, 0)
		want[0] = append(want[0], "XXX", want[0][0])
		if got := drained(t, n); !same(got, want) {
			t.Errorf("behind Take(0, %d) and other bytes there, the lists are %q, want %q", at, got, want)
		}
		if string(b) != "XXX" || string(c) != "XXX" {
			t.Errorf("what was taken is %q and %q", b, c)
		}
	}
}

// The chapter's example.
func TestExample(t *testing.T) {
	run(t, 1000, []step{
		{put(0, "a"), api.OK, "", abc("a")},
		{put(0, "b"), api.OK, "", abc("a", "b")},
		{take(0, 1), api.OK, "b", abc("a")},
	})
}
