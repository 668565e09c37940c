package net_test

import (
	"math/rand"
	"slices"
	"strconv"
	"testing"

	"lessor/api"
	"lessor/net"
)

// model is a network by the document's words.
type model struct {
	room  int
	lists lists
	cut   bool
}

// do does a deed.
func (m *model) do(x deed) (string, api.Errno) {
	if x.call == "Cut" {
		m.cut = x.is
		return "", api.OK
	}
	if x.to != 0 && x.to != 1 {
		return "", api.ErrArg
	}
	l := m.lists[x.to]
	none, full := x.at < 0 || x.at > len(l)-1, len(l) == m.room
	switch {
	case x.call == "Put" && m.cut:
		return "", api.ErrDown
	case x.call != "Put" && none:
		return "", api.ErrNone
	case (x.call == "Put" || x.call == "Copy") && full:
		return "", api.ErrFull
	case x.call == "Put":
		m.lists[x.to] = append(slices.Clone(l), x.bytes)
		return "", api.OK
	case x.call == "Copy":
		m.lists[x.to] = append(slices.Clone(l), l[x.at])
		return "", api.OK
	}
	m.lists[x.to] = append(slices.Clone(l[:x.at]), l[x.at+1:]...)
	if x.call == "Lose" {
		return "", api.OK
	}
	return l[x.at], api.OK
}

// anyNumber is a random number, most often from 0 to n - 1.
func anyNumber(r *rand.Rand, n int) int {
	switch r.Intn(20) {
	case 0:
		return numbers[r.Intn(len(numbers))]
	case 1:
		return n
	case 2:
		return -1
	}
	return r.Intn(max(n, 1))
}

// anyDeed is a random deed on a network with these messages.
func anyDeed(r *rand.Rand, l lists, name int) deed {
	to := anyNumber(r, 2)
	at := anyNumber(r, 3)
	if to == 0 || to == 1 {
		at = anyNumber(r, len(l[to]))
	}
	switch r.Intn(12) {
	case 0, 1, 2, 3, 4:
		return put(to, strconv.Itoa(name)[:r.Intn(len(strconv.Itoa(name))+1)])
	case 5, 6:
		return take(to, at)
	case 7, 8:
		return double(to, at)
	case 9, 10:
		return lose(to, at)
	}
	return cut(r.Intn(3) == 0)
}

// P22.1 and P22.2: random calls, against the document's words.
func TestModel(t *testing.T) {
	r := rand.New(rand.NewSource(22))
	for range 3000 {
		room := 1 + r.Intn(6)
		m := model{room: room}
		n := made(t, room)
		var deeds []deed
		for i := range 1 + r.Intn(60) {
			x := anyDeed(r, m.lists, 100+i)
			deeds = append(deeds, x)
			want, wantE := m.do(x)
			if got, e := do(n, x); got != want || e != wantE {
				t.Fatalf("room %d, the last one of %v: %q, error %d; want %q, error %d", room, deeds, got, e, want, wantE)
			}
			if n.Len(0) != len(m.lists[0]) || n.Len(1) != len(m.lists[1]) {
				t.Fatalf("room %d, behind %v: Len %d and %d, want %d and %d", room, deeds, n.Len(0), n.Len(1), len(m.lists[0]), len(m.lists[1]))
			}
		}
		if got := drained(t, n); !same(got, m.lists) {
			t.Fatalf("room %d, behind %v: the lists are %q, want %q", room, deeds, got, m.lists)
		}
	}
}

// P22.1: a network with all the room that there may be.
func TestModelGreatest(t *testing.T) {
	r := rand.New(rand.NewSource(23))
	const room = 1000
	m := model{room: room}
	n := made(t, room)
	for i := range 8000 {
		x := anyDeed(r, m.lists, i)
		if x.call == "Lose" && i < 4000 {
			x.call = "Copy"
		}
		want, wantE := m.do(x)
		if got, e := do(n, x); got != want || e != wantE {
			t.Fatalf("deed %d, %v: %q, error %d; want %q, error %d", i, x, got, e, want, wantE)
		}
	}
	if got := drained(t, n); !same(got, m.lists) {
		t.Fatal("the lists are others")
	}
}

// P22.3: what is taken was put for this server, and is taken at most as often as it
// was put and copied. Each message that is put is another one.
func TestTheorem(t *testing.T) {
	r := rand.New(rand.NewSource(24))
	for range 2000 {
		room := 1 + r.Intn(8)
		n := made(t, room)
		there := [2]map[string]int{{}, {}} // how often each may yet be taken
		left := func(to int, name string) {
			there[to][name]--
			if there[to][name] < 0 {
				t.Fatalf("%q comes more often than it was put and copied for %d", name, to)
			}
		}
		var deeds []deed
		for i := range 80 {
			x := anyDeed(r, lists{make([]string, room), make([]string, room)}, 100)
			x.bytes = strconv.Itoa(i)
			b, e := do(n, x)
			switch {
			case e != api.OK:
			case x.call == "Put":
				there[x.to][x.bytes]++
			case x.call == "Take":
				left(x.to, b)
			case x.call == "Copy":
				there[x.to][at(t, room, deeds, x)]++
			case x.call == "Lose":
				left(x.to, at(t, room, deeds, x))
			}
			deeds = append(deeds, x)
		}
		for to, l := range drained(t, n) {
			for _, name := range l {
				left(to, name)
			}
			for name, c := range there[to] {
				if c != 0 {
					t.Fatalf("%q is gone %d times, though it was neither taken nor lost", name, c)
				}
			}
		}
	}
}

// at is the message with the index of x, behind deeds. It is taken from another
// network on which the same was done.
func at(t *testing.T, room int, deeds []deed, x deed) string {
	t.Helper()
	b, e := made(t, room, deeds...).Take(x.to, x.at)
	if e != api.OK {
		t.Fatalf("Take(%d, %d) behind %v: error %d", x.to, x.at, deeds, e)
	}
	return string(b)
}

// P22.3: messages to one server do not affect those to the other one: calls for one
// server give the same with and without calls for the other one among them.
func TestApart(t *testing.T) {
	r := rand.New(rand.NewSource(25))
	for range 2000 {
		room := 1 + r.Intn(5)
		both, alone := made(t, room), [2]*net.Net{made(t, room), made(t, room)}
		m := model{room: room}
		for i := range 60 {
			x := anyDeed(r, m.lists, 100+i)
			m.do(x)
			got, e := do(both, x)
			if x.call == "Cut" {
				do(alone[0], x)
				do(alone[1], x)
				continue
			}
			if x.to != 0 && x.to != 1 {
				continue
			}
			if want, wantE := do(alone[x.to], x); got != want || e != wantE {
				t.Fatalf("%v: %q, error %d; without the other server's calls %q, error %d", x, got, e, want, wantE)
			}
		}
		l := drained(t, both)
		for to := range l {
			if want := drained(t, alone[to]); !slices.Equal(l[to], want[to]) || len(want[1-to]) != 0 {
				t.Fatalf("to %d there are %q; without the other server's calls %q", to, l[to], want)
			}
		}
	}
}
