package contact_test

import (
	"math"
	"math/rand"
	"slices"
	"strings"
	"testing"

	"lessor/api"
	"lessor/contact"
)

// The last moment, the greatest number, and the greatest life. They are written as
// numbers here, as the document has them.
const (
	most     = 1 << 40
	mostXid  = 1 << 30
	mostLife = 1 << 29
)

// hello is a Hello of a life, to a life, with a number and a state.
func hello(life, seen, xid, state int) api.Message {
	return api.Message{Kind: 1, Life: life, Seen: seen, Xid: xid, State: state}
}

// others are messages of a life, to a life, of each kind but Hello.
func others(life, seen int) []api.Message {
	return []api.Message{
		{Kind: 2, Life: life, Seen: seen, Xid: 1},
		{Kind: 2, Life: life, Seen: seen, Xid: 7, Addr: 9, Bind: 2, Client: "ab", Pot: 8, At: 3},
		{Kind: 2, Life: life, Seen: seen, Xid: mostXid, Addr: 1<<32 - 1, Bind: 5, Client: strings.Repeat("x", 32), Pot: most, At: most},
		{Kind: 3, Life: life, Seen: seen, Xid: 1},
		{Kind: 3, Life: life, Seen: seen, Xid: mostXid, Ok: true},
		{Kind: 4, Life: life, Seen: seen},
		{Kind: 5, Life: life, Seen: seen},
	}
}

// within tells whether n is from low to high.
func within(n, low, high int) bool {
	return low <= n && n <= high
}

// valid is chapter 4's validity, by its words.
func valid(m api.Message) bool {
	if !within(m.Life, 1, mostLife) || !within(m.Seen, 0, mostLife) {
		return false
	}
	has := api.Message{Kind: m.Kind, Life: m.Life, Seen: m.Seen}
	switch m.Kind {
	case 1:
		has.Xid, has.State = m.Xid, m.State
		return m == has && within(m.Xid, 1, mostXid) && within(m.State, 0, 8)
	case 2:
		has.Xid, has.Addr, has.Bind, has.Client, has.Pot, has.At = m.Xid, m.Addr, m.Bind, m.Client, m.Pot, m.At
		return m == has && within(m.Xid, 1, mostXid) && within(m.Bind, 0, 5) && len(m.Client) <= 32 &&
			within(m.Pot, 0, most) && within(m.At, 0, most)
	case 3:
		has.Xid, has.Ok = m.Xid, m.Ok
		return m == has && within(m.Xid, 1, mostXid)
	case 4, 5:
		return m == has
	}
	return false
}

// model is a contact by the chapter's words.
type model struct {
	own, known, created, xid, state, at int
	up                                  bool
}

// mark is what Mark has to answer.
func (m *model) mark(n api.Message) api.Message {
	n.Life, n.Seen = m.own, m.known
	return n
}

// hello is what Hello has to answer; it changes m, as the next two do.
func (m *model) hello(state int) (api.Message, api.Errno) {
	if !within(state, 0, 8) {
		return api.Message{}, api.ErrArg
	}
	if m.created == mostXid {
		return api.Message{}, api.ErrFull
	}
	m.created++
	return m.mark(api.Message{Kind: 1, Xid: m.created, State: state}), api.OK
}

// refuses is the error of Take.
func (m *model) refuses(n api.Message, now int) api.Errno {
	switch {
	case !within(now, 0, most):
		return api.ErrArg
	case !valid(n):
		return api.ErrForm
	case n.Life < m.known:
		return api.ErrOld
	case n.Kind != 1 && n.Life != m.known:
		return api.ErrOld
	case n.Kind != 1 && n.Seen != m.own:
		return api.ErrOld
	case n.Kind != 1 && !m.up:
		return api.ErrOld
	case n.Kind == 1 && n.Life == m.known && n.Xid <= m.xid:
		return api.ErrOld
	}
	return api.OK
}

// take is what Take has to answer.
func (m *model) take(n api.Message, now int) (bool, api.Errno) {
	if e := m.refuses(n, now); e != api.OK {
		return false, e
	}
	m.at = now
	if n.Kind != 1 {
		return false, api.OK
	}
	changed := n.Life > m.known
	if changed {
		m.known = n.Life
	}
	m.xid, m.state = n.Xid, n.State
	if n.Seen == m.own {
		m.up = true
	} else if changed {
		m.up = false
	}
	return changed, api.OK
}

// tick is what Tick has to answer.
func (m *model) tick(now int) (bool, api.Errno) {
	if !within(now, 0, most) {
		return false, api.ErrArg
	}
	if m.up && m.at <= now-6 {
		m.up = false
		return true, api.OK
	}
	return false, api.OK
}

// both are a contact and the model of it: each call is made of both, and each
// answer of the contact held against that of the model, and against what the test
// wants.
type both struct {
	t *testing.T
	c *contact.Contact
	m model
}

// fresh is a new contact of this life.
func fresh(t *testing.T, life int) *both {
	t.Helper()
	c, e := contact.New(life)
	if c == nil || e != api.OK {
		t.Fatalf("New(%d) = %v, %d, want a contact, OK", life, c, e)
	}
	x := &both{t: t, c: c, m: model{own: life}}
	x.agree("New")
	return x
}

// heard is a contact of this life that has taken these messages at the moment 10.
func heard(t *testing.T, life int, l ...api.Message) *both {
	t.Helper()
	x := fresh(t, life)
	for _, m := range l {
		if _, e := x.holdTake(m, 10); e != api.OK {
			t.Fatalf("Take(%+v, 10) = %d, want OK", m, e)
		}
	}
	return x
}

// stages are contacts of the life 5: one that knows nothing; one that knows the
// life 7, and is not up, by a hello with Seen 0, with another Seen, and since it was
// lost; and two that are up. The last hello of all but the first one has the number
// 4, and the state 3.
func stages(t *testing.T) []*both {
	t.Helper()
	lost := heard(t, 5, hello(7, 5, 4, 3))
	lost.tick(16, true)
	return []*both{
		fresh(t, 5),
		heard(t, 5, hello(7, 0, 4, 3)),
		heard(t, 5, hello(7, 4, 4, 3)),
		lost,
		heard(t, 5, hello(7, 5, 4, 3)),
		heard(t, 5, hello(7, 0, 3, 6), hello(7, 5, 4, 3)),
	}
}

// agree fails unless the contact tells of itself what the model does.
func (x *both) agree(what string) {
	x.t.Helper()
	if is := x.c.Up(); is != x.m.up {
		x.t.Fatalf("%s: Up() = %t, want %t", what, is, x.m.up)
	}
	if n := x.c.Other(); n != x.m.known {
		x.t.Fatalf("%s: Other() = %d, want %d", what, n, x.m.known)
	}
	if n := x.c.State(); n != x.m.state {
		x.t.Fatalf("%s: State() = %d, want %d", what, n, x.m.state)
	}
	m, want := x.c.Mark(api.Message{Kind: 4}), x.m.mark(api.Message{Kind: 4})
	if m != want {
		x.t.Fatalf("%s: Mark = %+v, want %+v", what, m, want)
	}
}

// holdMark is m with the lives.
func (x *both) holdMark(m api.Message) api.Message {
	x.t.Helper()
	before := *x.c
	n, want := x.c.Mark(m), x.m.mark(m)
	if n != want || *x.c != before {
		x.t.Fatalf("Mark(%+v) = %+v, want %+v, and nothing changed", m, n, want)
	}
	x.agree("Mark")
	return n
}

// holdHello is a hello of this state.
func (x *both) holdHello(state int) (api.Message, api.Errno) {
	x.t.Helper()
	before := *x.c
	m, e := x.c.Hello(state)
	if want, wantE := x.m.hello(state); m != want || e != wantE {
		x.t.Fatalf("Hello(%d) = %+v, %d, want %+v, %d", state, m, e, want, wantE)
	}
	if e != api.OK && *x.c != before {
		x.t.Fatalf("Hello(%d) has changed something", state)
	}
	x.agree("Hello")
	return m, e
}

// holdTake is what comes of m at now.
func (x *both) holdTake(m api.Message, now int) (bool, api.Errno) {
	x.t.Helper()
	before := *x.c
	is, e := x.c.Take(m, now)
	if want, wantE := x.m.take(m, now); is != want || e != wantE {
		x.t.Fatalf("Take(%+v, %d) = %t, %d, want %t, %d", m, now, is, e, want, wantE)
	}
	if e != api.OK && *x.c != before {
		x.t.Fatalf("Take(%+v, %d) has changed something", m, now)
	}
	x.agree("Take")
	return is, e
}

// holdTick is whether the contact is lost at now.
func (x *both) holdTick(now int) (bool, api.Errno) {
	x.t.Helper()
	before := *x.c
	is, e := x.c.Tick(now)
	if want, wantE := x.m.tick(now); is != want || e != wantE {
		x.t.Fatalf("Tick(%d) = %t, %d, want %t, %d", now, is, e, want, wantE)
	}
	if !is && *x.c != before {
		x.t.Fatalf("Tick(%d) has changed something", now)
	}
	x.agree("Tick")
	return is, e
}

// hello fails unless Hello of this state answers want.
func (x *both) hello(state int, want api.Message) {
	x.t.Helper()
	if m, e := x.holdHello(state); m != want || e != api.OK {
		x.t.Fatalf("Hello(%d) = %+v, %d, want %+v, OK", state, m, e, want)
	}
}

// refuseHello fails unless Hello of this state fails for the reason want.
func (x *both) refuseHello(state int, want api.Errno) {
	x.t.Helper()
	if m, e := x.holdHello(state); m != (api.Message{}) || e != want {
		x.t.Fatalf("Hello(%d) = %+v, %d, want nothing, %d", state, m, e, want)
	}
}

// take fails unless m is accepted at now, and is of a new life, or not.
func (x *both) take(m api.Message, now int, want bool) {
	x.t.Helper()
	if is, e := x.holdTake(m, now); is != want || e != api.OK {
		x.t.Fatalf("Take(%+v, %d) = %t, %d, want %t, OK", m, now, is, e, want)
	}
}

// refuse fails unless m is refused at now for the reason want.
func (x *both) refuse(m api.Message, now int, want api.Errno) {
	x.t.Helper()
	if is, e := x.holdTake(m, now); is || e != want {
		x.t.Fatalf("Take(%+v, %d) = %t, %d, want false, %d", m, now, is, e, want)
	}
}

// tick fails unless the contact is lost at now, or not.
func (x *both) tick(now int, want bool) {
	x.t.Helper()
	if is, e := x.holdTick(now); is != want || e != api.OK {
		x.t.Fatalf("Tick(%d) = %t, %d, want %t, OK", now, is, e, want)
	}
}

// refuseTick fails unless Tick fails at now.
func (x *both) refuseTick(now int) {
	x.t.Helper()
	if is, e := x.holdTick(now); is || e != api.ErrArg {
		x.t.Fatalf("Tick(%d) = %t, %d, want false, ErrArg", now, is, e)
	}
}

// tells fails unless Up, Other and State answer so.
func (x *both) tells(up bool, other, state int) {
	x.t.Helper()
	if is, n, s := x.c.Up(), x.c.Other(), x.c.State(); is != up || n != other || s != state {
		x.t.Fatalf("Up, Other, State = %t, %d, %d, want %t, %d, %d", is, n, s, up, other, state)
	}
}

// wrongTimes are no moments.
func wrongTimes() []int {
	return []int{
		-1, -2, -6, -7, -most, -1 << 32, math.MinInt, math.MinInt + 1, math.MinInt + 6,
		most + 1, most + 2, most + 6, 2 * most, 1 << 48, math.MaxInt - 1, math.MaxInt,
	}
}

// wrongNumbers are in no range of a message.
func wrongNumbers() []int {
	return []int{-1, -2, -256, -1 << 32, math.MinInt, math.MinInt + 1, most + 1, 1 << 48, 1<<48 + 1, 1<<56 + 1, math.MaxInt - 1, math.MaxInt}
}

// wrongOf are messages that are not valid, each made of m by one field.
func wrongOf(m api.Message) []api.Message {
	l := []api.Message{}
	add := func(n api.Message) {
		if !valid(n) {
			l = append(l, n)
		}
	}
	for _, n := range append(wrongNumbers(), 0, 1, 5, 6, 7, 8, 9, 256, 257, 258, 261, mostLife+1, mostXid+1, 1<<32+1) {
		for _, field := range []func(m *api.Message) *int{
			func(m *api.Message) *int { return &m.Kind },
			func(m *api.Message) *int { return &m.Life },
			func(m *api.Message) *int { return &m.Seen },
			func(m *api.Message) *int { return &m.Xid },
			func(m *api.Message) *int { return &m.State },
			func(m *api.Message) *int { return &m.Bind },
			func(m *api.Message) *int { return &m.Pot },
			func(m *api.Message) *int { return &m.At },
		} {
			w := m
			*field(&w) = n
			add(w)
		}
	}
	for _, n := range []int{1, 32, 33, 34, 256, 257} {
		w := m
		w.Client = strings.Repeat("x", n)
		add(w)
	}
	addr, ok := m, m
	addr.Addr, ok.Ok = 1, true
	add(addr)
	add(ok)
	return l
}

// wrong are messages that are not valid, of each kind and of none, of a life and to
// a life.
func wrong(life, seen int) []api.Message {
	l := []api.Message{{}, {Kind: 1}, {Kind: 2}, {Kind: 3}, {Kind: 4}, {Kind: 5}, {Life: life, Seen: seen}}
	for _, m := range append(others(life, seen), hello(life, seen, 5, 3), hello(life, seen, mostXid, 8), hello(life, seen, 1, 0)) {
		l = append(l, wrongOf(m)...)
	}
	all := api.Message{Kind: 6, Life: -1, Seen: -1, Xid: -1, State: -1, Addr: 1, Bind: -1, Client: strings.Repeat("x", 33), Pot: -1, At: -1, Ok: true}
	return append(l, all)
}

// P19.1: New

func TestNew(t *testing.T) {
	for _, life := range []int{1, 2, 3, 255, 256, 1 << 16, mostLife - 1, mostLife} {
		x := fresh(t, life)
		x.tells(false, 0, 0)
		for _, now := range []int{0, 5, 6, 7, most} {
			x.tick(now, false)
		}
		for _, m := range others(1, life) {
			x.refuse(m, 0, api.ErrOld)
		}
		x.hello(3, hello(life, 0, 1, 3))
		x.take(hello(1, life, 1, 0), 0, true)
		x.tells(true, 1, 0)
	}
}

func TestNewRefuses(t *testing.T) {
	lives := []int{
		0, -1, -2, -mostLife, -1 << 32, math.MinInt, math.MinInt + 1,
		mostLife + 1, mostLife + 2, 2 * mostLife, 1 << 32, 1<<32 + 1, math.MaxInt - 1, math.MaxInt,
	}
	for _, life := range lives {
		if c, e := contact.New(life); c != nil || e != api.ErrArg {
			t.Errorf("New(%d) = %v, %d, want nil, ErrArg", life, c, e)
		}
	}
}

func TestContactsAreSeparate(t *testing.T) {
	x, y := fresh(t, 5), fresh(t, 5)
	x.take(hello(7, 5, 4, 3), 10, true)
	x.hello(1, hello(5, 7, 1, 1))
	y.tells(false, 0, 0)
	y.hello(2, hello(5, 0, 1, 2))
	y.take(hello(3, 0, 2, 6), 20, true)
	y.tick(30, false)
	x.tells(true, 7, 3)
	x.hello(1, hello(5, 7, 2, 1))
	x.tick(15, false)
	x.tick(16, true)
	y.tells(false, 3, 6)
}

// P19.1: Mark

// No message is too wrong for Mark, which changes two fields of it alone.
func TestMark(t *testing.T) {
	l := slices.Concat(others(1, 0), others(9, 9), wrong(1, 0), wrong(7, 5), []api.Message{hello(1, 0, 1, 0), hello(7, 5, 9, 8)})
	for _, n := range append(wrongNumbers(), 0, 1, 5, 7, mostLife, mostLife+1) {
		l = append(l, api.Message{Life: n}, api.Message{Seen: n}, api.Message{Kind: n, Life: n, Seen: n, Xid: n, State: n, Bind: n, Pot: n, At: n})
	}
	for _, x := range stages(t) {
		known := x.c.Other()
		for _, m := range l {
			want := m
			want.Life, want.Seen = 5, known
			if n := x.holdMark(m); n != want {
				t.Fatalf("Mark(%+v) = %+v, want %+v", m, n, want)
			}
		}
	}
}

func TestMarkOfEachLife(t *testing.T) {
	for _, life := range []int{1, 2, mostLife - 1, mostLife} {
		x := fresh(t, life)
		m := api.Message{Kind: 9, Life: 3, Seen: 4, Xid: -5, Client: "a", Ok: true}
		for _, known := range []int{0, 1, 2, 7, mostLife - 1, mostLife} {
			if known > 0 {
				x.take(hello(known, 0, 1, 0), 1, true)
			}
			want := api.Message{Kind: 9, Life: life, Seen: known, Xid: -5, Client: "a", Ok: true}
			if n := x.holdMark(m); n != want {
				t.Fatalf("Mark(%+v) = %+v, want %+v", m, n, want)
			}
		}
	}
}

// P19.1: Hello

func TestHello(t *testing.T) {
	x := fresh(t, 5)
	for n := range 30 {
		state := n % 9
		x.hello(state, hello(5, 0, n+1, state))
	}
	x.take(hello(7, 0, 1, 4), 0, true)
	x.hello(0, hello(5, 7, 31, 0))
	x.hello(8, hello(5, 7, 32, 8))
	x.take(hello(7, 5, 2, 4), 0, false)
	x.hello(8, hello(5, 7, 33, 8))
	// A new life of the other server does not change the own numbers.
	x.take(hello(9, 5, 1, 4), 0, true)
	x.hello(2, hello(5, 9, 34, 2))
	x.tick(6, true)
	x.hello(2, hello(5, 9, 35, 2))
}

// What is refused takes no number.
func TestHelloRefuses(t *testing.T) {
	states := append(wrongNumbers(), 9, 10, 255, 256, 257, 1<<32, 1<<32+1)
	for _, x := range stages(t) {
		known := x.c.Other()
		for n, state := range states {
			x.refuseHello(state, api.ErrArg)
			x.hello(n%9, hello(5, known, n+1, n%9))
		}
	}
}

// The end of the numbers: the last one is 2^30.
func TestHelloAtTheEndOfNumbers(t *testing.T) {
	for before := range 4 {
		for _, x := range stages(t) {
			known := x.c.Other()
			x.c.Skip(mostXid - before)
			x.m.created = mostXid - before
			for n := range before {
				x.hello(n, hello(5, known, mostXid-before+n+1, n))
			}
			for state := range 9 {
				x.refuseHello(state, api.ErrFull)
			}
			// The state comes first.
			for _, state := range append(wrongNumbers(), 9) {
				x.refuseHello(state, api.ErrArg)
			}
			x.take(hello(9, 5, 1, 2), 10, true)
			x.refuseHello(2, api.ErrFull)
			x.holdMark(api.Message{Kind: 4})
			x.tick(16, true)
			x.refuseHello(2, api.ErrFull)
		}
	}
}

// P19.2: Take and its errors

func TestTakeAtMoments(t *testing.T) {
	for _, now := range []int{0, 1, 5, 6, 1 << 20, 1 << 32, most - 7, most - 6, most - 1, most} {
		x := fresh(t, 5)
		x.take(hello(7, 5, 4, 3), now, true)
		x.tells(true, 7, 3)
		for _, m := range others(7, 5) {
			x.take(m, now, false)
		}
		x.take(hello(7, 5, 5, 2), now, false)
		x.tells(true, 7, 2)
	}
}

func TestTakeRefusesWrongMoments(t *testing.T) {
	l := slices.Concat(others(7, 5), others(6, 5), others(7, 4), wrong(7, 5))
	l = append(l, hello(7, 5, 5, 1), hello(7, 5, 4, 1), hello(7, 0, 9, 1), hello(6, 5, 9, 1), hello(8, 5, 1, 1), hello(8, 0, 1, 1))
	for _, x := range stages(t) {
		for _, now := range wrongTimes() {
			for _, m := range l {
				x.refuse(m, now, api.ErrArg)
			}
		}
	}
}

// Whether a message is valid comes before whether it is old.
func TestTakeRefusesWhatIsNotValid(t *testing.T) {
	for _, x := range stages(t) {
		for _, life := range []int{1, 6, 7, 8} {
			for _, seen := range []int{0, 4, 5} {
				for _, m := range wrong(life, seen) {
					x.refuse(m, 10, api.ErrForm)
				}
			}
		}
		for _, now := range []int{0, 9, 11, most} {
			for _, m := range wrong(7, 5) {
				x.refuse(m, now, api.ErrForm)
			}
		}
	}
}

func TestTakeRefusesALongClient(t *testing.T) {
	for _, n := range []int{33, 256, 1 << 16, 1 << 20, 1<<24 + 32} {
		for _, x := range stages(t) {
			m := api.Message{Kind: 2, Life: 7, Seen: 5, Xid: 1, Client: strings.Repeat("x", n)}
			x.refuse(m, 10, api.ErrForm)
			m.Kind, m.Xid = 4, 0
			x.refuse(m, 10, api.ErrForm)
		}
	}
}

// P19.2: hellos

func TestTakeHelloOfTheKnownLife(t *testing.T) {
	for _, xid := range []int{1, 2, 4, 255, 256, 1 << 16, mostXid - 1, mostXid} {
		for _, seen := range []int{0, 4, 5, 6, mostLife} {
			x := heard(t, 5, hello(7, 5, xid, 3))
			for _, n := range []int{xid, xid - 1, xid - 2, 1, xid/2 + 1} {
				if n >= 1 && n <= xid {
					x.refuse(hello(7, seen, n, 6), 11, api.ErrOld)
					x.refuse(hello(7, seen, n, 3), 10, api.ErrOld)
				}
			}
			x.tells(true, 7, 3)
			for _, n := range []int{xid + 1, xid + 2, xid + 1000, mostXid} {
				if n > xid && n <= mostXid && n > x.m.xid {
					x.take(hello(7, seen, n, n%9), 11, false)
					x.tells(true, 7, n%9)
					x.refuse(hello(7, seen, n, 6), 11, api.ErrOld)
					x.refuse(hello(7, seen, n-1, 6), 11, api.ErrOld)
				}
			}
		}
	}
}

// A hello of the known life makes a contact up, but never not up.
func TestTakeHelloOfTheKnownLifeWithEachSeen(t *testing.T) {
	for _, x := range stages(t)[1:] {
		up := x.c.Up()
		for n, seen := range []int{0, 4, 6, 7, 1, mostLife, 0} {
			x.take(hello(7, seen, 5+n, n), 10, false)
			x.tells(up, 7, n)
		}
		x.take(hello(7, 5, 20, 8), 10, false)
		x.tells(true, 7, 8)
		for n, seen := range []int{0, 4, 6, 7, 1, mostLife, 5} {
			x.take(hello(7, seen, 21+n, n), 10, false)
			x.tells(true, 7, n)
		}
	}
}

func TestTakeHelloOfALesserLife(t *testing.T) {
	for _, x := range stages(t)[1:] {
		up := x.c.Up()
		for life := 1; life < 7; life++ {
			for _, seen := range []int{0, 4, 5, 6, mostLife} {
				for _, xid := range []int{1, 3, 4, 5, mostXid} {
					x.refuse(hello(life, seen, xid, 6), 12, api.ErrOld)
				}
			}
		}
		x.tells(up, 7, 3)
	}
	x := heard(t, 5, hello(mostLife, 5, 1, 2))
	for _, life := range []int{1, 5, 1 << 28, mostLife - 1} {
		x.refuse(hello(life, 5, 2, 3), 12, api.ErrOld)
	}
	x.tells(true, mostLife, 2)
}

// A hello of a greater life makes a contact up or not up, whatever it was before.
func TestTakeHelloOfAGreaterLife(t *testing.T) {
	for _, life := range []int{8, 9, 1000, mostLife - 1, mostLife} {
		for _, seen := range []int{5, 0, 4, 6, 7, 8, mostLife} {
			for _, xid := range []int{1, 3, 4, 5, mostXid} {
				for _, x := range stages(t) {
					x.take(hello(life, seen, xid, 6), 12, true)
					x.tells(seen == 5, life, 6)
					// The number of the former life is forgotten, that of the new one counts.
					x.refuse(hello(life, 5, xid, 1), 12, api.ErrOld)
					x.refuse(hello(7, 5, mostXid, 1), 12, api.ErrOld)
					if xid > 1 {
						x.refuse(hello(life, 5, xid-1, 1), 12, api.ErrOld)
					}
					if xid < mostXid {
						x.take(hello(life, 0, xid+1, 2), 12, false)
						x.tells(seen == 5, life, 2)
					}
				}
			}
		}
	}
}

// The first life that is heard of is greater than none.
func TestTakeFirstHello(t *testing.T) {
	for _, life := range []int{1, 2, 4, 5, 6, mostLife} {
		for _, seen := range []int{5, 0, 1, 4, 6, mostLife} {
			for state := range 9 {
				x := fresh(t, 5)
				x.take(hello(life, seen, 1, state), 0, true)
				x.tells(seen == 5, life, state)
			}
		}
	}
}

// Lives follow one another, and each hello is of a new one.
func TestTakeHellosOfManyLives(t *testing.T) {
	x := fresh(t, 5)
	for n := range 20 {
		seen := []int{0, 5, 4}[n%3]
		x.take(hello(2+2*n, seen, 21-n, n%9), n, true)
		x.tells(seen == 5, 2+2*n, n%9)
		x.refuse(hello(1+2*n, 5, 30, 1), n, api.ErrOld)
		if n > 0 {
			x.refuse(hello(2*n, 5, 30, 1), n, api.ErrOld)
		}
	}
}

// P19.2: messages other than hellos

func TestTakeOfOtherKinds(t *testing.T) {
	for _, x := range stages(t) {
		up := x.c.Up()
		for _, m := range others(7, 5) {
			if up {
				x.take(m, 10, false)
				x.take(m, 10, false)
			} else {
				x.refuse(m, 10, api.ErrOld)
			}
		}
	}
}

func TestTakeRefusesOtherKindsOfOtherLives(t *testing.T) {
	for _, x := range stages(t) {
		up, known, state := x.c.Up(), x.c.Other(), x.c.State()
		for _, life := range []int{1, 5, 6, 7, 8, mostLife} {
			for _, seen := range []int{0, 1, 4, 5, 6, 7, mostLife} {
				if life == 7 && seen == 5 {
					continue
				}
				for _, m := range others(life, seen) {
					x.refuse(m, 12, api.ErrOld)
				}
			}
		}
		x.tells(up, known, state)
	}
}

// Once the other server has a new life, nothing of the former one is accepted.
func TestTakeOfOtherKindsBehindANewLife(t *testing.T) {
	for _, seen := range []int{5, 0, 4} {
		x := heard(t, 5, hello(7, 5, 4, 3))
		for _, m := range others(8, 5) {
			x.refuse(m, 11, api.ErrOld)
		}
		x.take(hello(8, seen, 1, 2), 11, true)
		for n, m := range others(7, 5) {
			x.refuse(m, 11, api.ErrOld)
			if seen == 5 {
				x.take(others(8, 5)[n], 11, false)
			} else {
				x.refuse(others(8, 5)[n], 11, api.ErrOld)
			}
		}
	}
}

// Only hellos have numbers and states that are recorded.
func TestTakeOfOtherKindsRecordsNothing(t *testing.T) {
	x := heard(t, 5, hello(7, 5, 4, 3))
	for _, m := range others(7, 5) {
		x.take(m, 10, false)
		x.tells(true, 7, 3)
	}
	x.refuse(hello(7, 5, 4, 6), 10, api.ErrOld)
	x.take(hello(7, 5, 5, 6), 10, false)
	x.tells(true, 7, 6)
}

// P19.3: Tick

func TestTick(t *testing.T) {
	for _, at := range []int{0, 1, 5, 6, 10, 1 << 20, 1 << 32, most - 8, most - 7, most - 6} {
		for late := -7; late <= 8; late++ {
			now := at + late
			if now < 0 || now > most {
				continue
			}
			x := fresh(t, 5)
			x.take(hello(7, 5, 4, 3), at, true)
			x.tick(now, late >= 6)
			x.tells(late < 6, 7, 3)
			// Once it is lost, it is not lost again.
			x.tick(now, false)
			x.tells(late < 6, 7, 3)
			x.tick(most, late < 6)
			x.tick(most, false)
			x.tells(false, 7, 3)
		}
	}
}

func TestTickNearTheEnd(t *testing.T) {
	for before := range 6 {
		x := fresh(t, 5)
		x.take(hello(7, 5, 4, 3), most-before, true)
		for now := most - 10; now <= most; now++ {
			x.tick(now, false)
		}
		x.tick(0, false)
		x.tells(true, 7, 3)
	}
}

func TestTickRefuses(t *testing.T) {
	for _, x := range stages(t) {
		up, known, state := x.c.Up(), x.c.Other(), x.c.State()
		for _, now := range wrongTimes() {
			x.refuseTick(now)
		}
		x.tells(up, known, state)
	}
	for _, at := range []int{0, most} {
		x := fresh(t, 5)
		x.take(hello(7, 5, 4, 3), at, true)
		for _, now := range wrongTimes() {
			x.refuseTick(now)
		}
		x.tells(true, 7, 3)
	}
}

func TestTickOfWhatIsNotUp(t *testing.T) {
	for _, x := range stages(t)[:4] {
		known, state := x.c.Other(), x.c.State()
		for _, now := range []int{0, 9, 10, 15, 16, 17, 100, most} {
			x.tick(now, false)
			x.tells(false, known, state)
		}
	}
}

// Every accepted message counts, of whatever kind.
func TestTickBehindEachKind(t *testing.T) {
	l := append(others(7, 5), hello(7, 5, 5, 3), hello(7, 0, 5, 3), hello(7, 4, 9, 3), hello(8, 5, 1, 3))
	for _, m := range l {
		for late := range 10 {
			x := heard(t, 5, hello(7, 5, 4, 3))
			x.holdTake(m, 14)
			x.tick(14+late, late >= 6)
		}
	}
	// The last one counts, even if it came at an earlier moment.
	for _, m := range l {
		for late := range 10 {
			x := heard(t, 5, hello(7, 5, 4, 3))
			x.holdTake(m, 3)
			x.tick(3+late, late >= 6)
		}
	}
}

// Neither what was refused nor a Tick counts.
func TestTickBehindWhatWasRefused(t *testing.T) {
	l := slices.Concat(others(7, 4), others(6, 5), others(8, 5), wrong(7, 5)[:50])
	l = append(l, hello(7, 5, 4, 3), hello(7, 5, 3, 3), hello(6, 5, 9, 3), hello(7, 5, 5, 9))
	x := heard(t, 5, hello(7, 5, 4, 3))
	for _, m := range l {
		if _, e := x.holdTake(m, 15); e == api.OK {
			t.Fatalf("Take(%+v) = OK", m)
		}
		x.tick(15, false)
		x.tick(11, false)
	}
	x.refuse(hello(7, 5, 5, 3), most+1, api.ErrArg)
	x.tick(15, false)
	x.tick(16, true)
	x.tells(false, 7, 3)
}

// A contact that was lost is up again with a hello to the own life, of the known
// life or of a greater one, and with nothing else.
func TestUpAgain(t *testing.T) {
	for _, life := range []int{7, 8} {
		x := heard(t, 5, hello(7, 5, 4, 3))
		x.tick(16, true)
		for _, m := range others(7, 5) {
			x.refuse(m, 16, api.ErrOld)
		}
		x.refuse(hello(7, 5, 4, 3), 16, api.ErrOld)
		x.take(hello(7, 0, 5, 2), 16, false)
		x.take(hello(7, 4, 6, 1), 17, false)
		x.tells(false, 7, 1)
		x.take(hello(life, 5, 7, 6), 20, life == 8)
		x.tells(true, life, 6)
		for _, m := range others(life, 5) {
			x.take(m, 20, false)
		}
		x.tick(25, false)
		x.tick(26, true)
		x.tells(false, life, 6)
	}
}

// A contact that came up late is lost 6 ticks behind what it heard last, not behind
// what it heard first.
func TestTickOfManyMessages(t *testing.T) {
	x := fresh(t, 5)
	x.take(hello(7, 0, 1, 0), 0, true)
	x.tick(8, false)
	x.take(hello(7, 5, 2, 1), 8, false)
	for now := 13; now <= 58; now += 5 {
		x.tick(now, false)
		x.take(others(7, 5)[now%7], now, false)
	}
	x.tick(63, false)
	x.tick(64, true)
	x.tells(false, 7, 1)
}

// The chapter's example.
func TestExample(t *testing.T) {
	x, y := fresh(t, 1), fresh(t, 1)
	x.hello(0, hello(1, 0, 1, 0))
	y.take(hello(1, 0, 1, 0), 3, true)
	y.tells(false, 1, 0)
	y.hello(0, hello(1, 1, 1, 0))
	x.take(hello(1, 1, 1, 0), 3, true)
	x.tells(true, 1, 0)
	x.hello(1, hello(1, 1, 2, 1))
	y.take(hello(1, 1, 2, 1), 4, false)
	y.tells(true, 1, 1)
}

// Random calls

// someLife is a life, or near one, out of few.
func someLife(r *rand.Rand) int {
	l := []int{0, 1, 2, 3, 4, 4, 5, 5, 5, 5, 6, 7, 7, 7, 8, 9, mostLife}
	return l[r.Intn(len(l))]
}

// someMessage is a message that the contact x may be told; mostly one that it may
// accept.
func someMessage(r *rand.Rand, x *both) api.Message {
	life, seen := x.m.known+r.Intn(7)/6, x.m.own
	if r.Intn(2) == 0 {
		life, seen = someLife(r), someLife(r)
	}
	switch n := r.Intn(20); {
	case n < 8:
		return hello(life, seen, x.m.xid+r.Intn(5)-1, r.Intn(9))
	case n < 9:
		return hello(life, seen, r.Intn(12), r.Intn(11)-1)
	case n < 17:
		l := others(life, seen)
		return l[r.Intn(len(l))]
	}
	l := append(others(life, seen), hello(life, seen, 5, 3))
	l = wrongOf(l[r.Intn(len(l))])
	return l[r.Intn(len(l))]
}

func TestRandomCalls(t *testing.T) {
	hellos, accepted, lost := 0, 0, 0
	for seed := range 400 {
		r := rand.New(rand.NewSource(int64(seed)))
		x := fresh(t, 3+r.Intn(4))
		now := r.Intn(20)
		for range 120 {
			now = max(0, now+r.Intn(8)-1)
			switch r.Intn(6) {
			case 0:
				if is, _ := x.holdTick(now); is {
					lost++
				}
			case 1:
				x.holdHello(r.Intn(12) - 1)
			case 2:
				x.holdMark(someMessage(r, x))
			default:
				at := now
				if r.Intn(20) == 0 {
					at = wrongTimes()[r.Intn(len(wrongTimes()))]
				}
				m := someMessage(r, x)
				if _, e := x.holdTake(m, at); e == api.OK && m.Kind == 1 {
					hellos++
				} else if e == api.OK {
					accepted++
				}
			}
		}
	}
	// Runs in which nothing happens would hold nothing.
	if hellos < 1000 || accepted < 1000 || lost < 100 {
		t.Fatalf("%d hellos and %d other messages were accepted, %d contacts lost", hellos, accepted, lost)
	}
}

// P19.4: the theorem

// sent is a message on its way: from which server, in which of its lives, to which
// life that it knew of, and how many hellos this life sent before.
type sent struct {
	m                       api.Message
	from, life, seen, order int
}

// wire is two servers, each with a contact of its current life, and all that they
// ever sent: nothing is ever taken off, so that it may come late, and again.
type wire struct {
	t     *testing.T
	r     *rand.Rand
	sides [2]*both
	sent  []sent
	taken map[[3]int]int // the last hello that was accepted: by whom, in which life, of which life
}

// begin begins a new life of a server.
func (w *wire) begin(side int) {
	life := 1
	if w.sides[side] != nil {
		life = w.sides[side].m.own + 1 + w.r.Intn(2)
	}
	w.sides[side] = fresh(w.t, life)
}

// say lets a server send a message.
func (w *wire) say(side int) {
	x := w.sides[side]
	s := sent{from: side, life: x.m.own, seen: x.c.Other(), order: x.m.created}
	if w.r.Intn(2) == 0 {
		s.m, _ = x.holdHello(w.r.Intn(9))
	} else {
		s.m = x.holdMark(others(1, 0)[w.r.Intn(7)])
	}
	w.sent = append(w.sent, s)
}

// hear lets the other server hear a message, and holds what it accepts against what
// the theorem says.
func (w *wire) hear(s sent, now int) {
	w.t.Helper()
	x := w.sides[1-s.from]
	up := x.c.Up()
	_, e := x.holdTake(s.m, now)
	if e != api.OK {
		return
	}
	if s.m.Kind != 1 {
		if s.life != x.c.Other() || s.seen != x.m.own || !up {
			w.t.Fatalf("%+v of the life %d to %d is accepted in the life %d that knows %d", s.m, s.life, s.seen, x.m.own, x.c.Other())
		}
		return
	}
	if s.life != x.c.Other() {
		w.t.Fatalf("%+v of the life %d is accepted, but %d is known", s.m, s.life, x.c.Other())
	}
	key := [3]int{1 - s.from, x.m.own, s.life}
	if last, is := w.taken[key]; is && s.order <= last {
		w.t.Fatalf("%+v is accepted behind a later hello", s.m)
	}
	w.taken[key] = s.order
}

func TestWire(t *testing.T) {
	for seed := range 300 {
		w := &wire{t: t, r: rand.New(rand.NewSource(int64(seed))), taken: map[[3]int]int{}}
		w.begin(0)
		w.begin(1)
		now := 0
		for range 400 {
			switch n := w.r.Intn(40); {
			case n == 0:
				w.begin(w.r.Intn(2))
			case n < 3:
				now += w.r.Intn(8)
				w.sides[w.r.Intn(2)].holdTick(now)
			case n < 16 || len(w.sent) == 0:
				w.say(w.r.Intn(2))
			case n < 30: // one of the last few
				w.hear(w.sent[max(0, len(w.sent)-1-w.r.Intn(4))], now)
			default:
				w.hear(w.sent[w.r.Intn(len(w.sent))], now)
			}
		}
		w.meet(now)
	}
}

// meet fails unless both servers are up after two hellos of each, whatever was
// before, and hear each other then.
func (w *wire) meet(now int) {
	w.t.Helper()
	for range 2 {
		first := w.r.Intn(2)
		for _, side := range []int{first, 1 - first} {
			m, _ := w.sides[side].holdHello(1)
			w.hear(sent{m: m, from: side, life: m.Life, seen: m.Seen, order: m.Xid - 1}, now)
		}
	}
	for side, x := range w.sides {
		y := w.sides[1-side]
		if !x.c.Up() || x.c.Other() != y.m.own {
			w.t.Fatalf("up, life = %t, %d, want true, %d", x.c.Up(), x.c.Other(), y.m.own)
		}
		for _, m := range others(1, 0) {
			x.take(y.holdMark(m), now, false)
		}
	}
}

// talk is two contacts in each order in which each says two hellos, the second one
// once it has heard a first one of the other's, and all are heard at some time.
type talk struct {
	t     *testing.T
	lives [2]int
	prior [2]int // the life of the other server that each of them knows already, or 0
	count int
}

// The steps of a talk: a server says its first or its second hello, or hears that of
// the other one.
const (
	sayFirst = iota
	saySecond
	hearFirst
	hearSecond
	steps
)

// may tells whether a server may do a step behind those that are done.
func may(done [2][steps]bool, side, step int) bool {
	other := done[1-side]
	switch {
	case done[side][step]:
		return false
	case step == saySecond:
		return done[side][sayFirst] && done[side][hearFirst]
	case step == hearFirst:
		return other[sayFirst]
	case step == hearSecond:
		return other[saySecond]
	}
	return true
}

// all plays all orders that begin so.
func (k *talk) all(order [][2]int, done [2][steps]bool) {
	if len(order) == 2*steps {
		k.play(order)
		return
	}
	for side := range 2 {
		for step := range steps {
			if may(done, side, step) {
				next := done
				next[side][step] = true
				k.all(append(order[:len(order):len(order)], [2]int{side, step}), next)
			}
		}
	}
}

// play plays one order.
func (k *talk) play(order [][2]int) {
	k.t.Helper()
	k.count++
	var sides [2]*both
	var said [2][2]api.Message
	for side := range 2 {
		sides[side] = fresh(k.t, k.lives[side])
		if k.prior[side] > 0 {
			sides[side].take(hello(k.prior[side], k.lives[side], 1000, 1), 0, true)
		}
	}
	for _, o := range order {
		side, step := o[0], o[1]
		if step <= saySecond {
			said[side][step], _ = sides[side].holdHello(1)
		} else {
			sides[side].holdTake(said[1-side][step-hearFirst], 1)
		}
	}
	for side, x := range sides {
		if !x.c.Up() || x.c.Other() != k.lives[1-side] {
			k.t.Fatalf("%v: server %d: up, life = %t, %d, want true, %d", order, side, x.c.Up(), x.c.Other(), k.lives[1-side])
		}
	}
}

func TestTwoHellosEachInEachOrder(t *testing.T) {
	for _, k := range []*talk{
		{t: t, lives: [2]int{1, 1}},
		{t: t, lives: [2]int{1, mostLife}},
		{t: t, lives: [2]int{7, 3}},
		{t: t, lives: [2]int{5, 8}, prior: [2]int{7, 0}},
		{t: t, lives: [2]int{5, 8}, prior: [2]int{7, 4}},
	} {
		k.all(nil, [2][steps]bool{})
		if k.count < 10 {
			t.Fatalf("%d orders", k.count)
		}
	}
}

// After one hello of each, at most one of the two is up.
func TestOneHelloEachIsNotEnough(t *testing.T) {
	x, y := fresh(t, 3), fresh(t, 4)
	one, _ := x.holdHello(1)
	two, _ := y.holdHello(2)
	x.take(two, 0, true)
	y.take(one, 0, true)
	x.tells(false, 4, 2)
	y.tells(false, 3, 1)
	one, _ = x.holdHello(1)
	two, _ = y.holdHello(2)
	y.take(one, 1, false)
	x.take(two, 1, false)
	x.tells(true, 4, 2)
	y.tells(true, 3, 1)
}
