package outbox_test

import (
	"math"
	"math/rand"
	"slices"
	"strings"
	"testing"

	"lessor/api"
	"lessor/outbox"
)

// The last moment, the greatest number, and the greatest address. They are written
// as numbers here, as the document has them.
const (
	most    = 1 << 40
	mostXid = 1 << 30
	last    = 4294967295
)

// update is an update of the address a that can be told from others by its Pot.
func update(a api.Addr, pot int) api.Message {
	return api.Message{Kind: api.Update, Addr: a, Bind: api.Active, Client: "a", Pot: pot, At: 3}
}

// numbered is m with the number xid.
func numbered(xid int, m api.Message) api.Message {
	m.Life, m.Seen, m.Xid = 0, 0, xid
	return m
}

// sent is an outstanding message: whether it is to be sent, and when it was.
type sent struct {
	m    api.Message
	send bool
	at   int
}

// model is a box by the chapter's words. What is outstanding is by increasing
// numbers, as it was issued.
type model struct {
	out   []sent
	waits []api.Message
	last  int
}

// valid is what Put takes, by the words of chapters 18 and 4.
func valid(m api.Message) bool {
	own := m.Kind == 2 && m.State == 0 && !m.Ok
	return own && m.Bind >= 0 && m.Bind <= 5 && len(m.Client) <= 32 &&
		m.Pot >= 0 && m.Pot <= 1<<40 && m.At >= 0 && m.At <= 1<<40
}

// waiting is the place of what waits of a, or -1.
func (m *model) waiting(a api.Addr) int {
	return slices.IndexFunc(m.waits, func(w api.Message) bool { return w.Addr == a })
}

// outstanding is the place of what is outstanding of a, or -1.
func (m *model) outstanding(a api.Addr) int {
	return slices.IndexFunc(m.out, func(s sent) bool { return s.m.Addr == a })
}

// issue issues what waits of a, if possible.
func (m *model) issue(a api.Addr) {
	at := m.waiting(a)
	if at < 0 || m.outstanding(a) >= 0 || m.last >= mostXid {
		return
	}
	m.last++
	m.out = append(m.out, sent{m: numbered(m.last, m.waits[at]), send: true})
	m.waits = slices.Delete(m.waits, at, at+1)
}

// put is what Put has to answer; it changes m, as the next four do.
func (m *model) put(n api.Message) api.Errno {
	if !valid(n) {
		return api.ErrForm
	}
	if m.last == mostXid {
		return api.ErrFull
	}
	if at := m.waiting(n.Addr); at >= 0 {
		m.waits = slices.Delete(m.waits, at, at+1)
	}
	m.waits = append(m.waits, numbered(0, n))
	m.issue(n.Addr)
	return api.OK
}

// acked is what Acked has to answer.
func (m *model) acked(xid int) (api.Message, bool) {
	at := slices.IndexFunc(m.out, func(s sent) bool { return s.m.Xid == xid })
	if at < 0 {
		return api.Message{}, false
	}
	gone := m.out[at].m
	m.out = slices.Delete(m.out, at, at+1)
	m.issue(gone.Addr)
	return gone, true
}

// tick is what Tick has to answer.
func (m *model) tick(now int) ([]api.Message, api.Errno) {
	if now < 0 || now > most {
		return nil, api.ErrArg
	}
	var l []api.Message
	for n, s := range m.out {
		if s.send || s.at <= now-3 {
			m.out[n].send, m.out[n].at = false, now
			l = append(l, s.m)
		}
	}
	return l, api.OK
}

// again is what Again has to do.
func (m *model) again() {
	for n := range m.out {
		m.out[n].send = true
	}
}

// busy is what Busy has to answer.
func (m *model) busy(a api.Addr) bool {
	return m.outstanding(a) >= 0 || m.waiting(a) >= 0
}

// len is what Len has to answer.
func (m *model) len() int {
	count := len(m.out)
	for _, w := range m.waits {
		if m.outstanding(w.Addr) < 0 {
			count++
		}
	}
	return count
}

// both are a box and the model of it: each call is made of both, and each answer
// of the box held against that of the model, and against what the test wants.
type both struct {
	t *testing.T
	b *outbox.Box
	m model
}

// fresh is a new box.
func fresh(t *testing.T) *both {
	t.Helper()
	x := &both{t: t, b: outbox.New()}
	x.agree("New")
	return x
}

// from is a box whose greatest number is n.
func from(t *testing.T, n int) *both {
	t.Helper()
	x := fresh(t)
	x.b.Skip(n)
	x.m.last = n
	x.agree("Skip")
	return x
}

// agree fails unless the box tells of itself what the model does.
func (x *both) agree(what string) {
	x.t.Helper()
	if n, want := x.b.Len(), x.m.len(); n != want {
		x.t.Fatalf("%s: Len() = %d, want %d", what, n, want)
	}
	if n := x.b.Last(); n != x.m.last {
		x.t.Fatalf("%s: Last() = %d, want %d", what, n, x.m.last)
	}
	addrs := []api.Addr{0, 1, 2, 1 << 31, last - 1, last}
	for _, s := range x.m.out {
		addrs = append(addrs, s.m.Addr-1, s.m.Addr, s.m.Addr+1, s.m.Addr^1<<31)
	}
	for _, w := range x.m.waits {
		addrs = append(addrs, w.Addr)
	}
	for _, a := range addrs {
		if is, want := x.b.Busy(a), x.m.busy(a); is != want {
			x.t.Fatalf("%s: Busy(%d) = %t, want %t", what, a, is, want)
		}
	}
}

// holdPut puts m, and is what came of it.
func (x *both) holdPut(m api.Message) api.Errno {
	x.t.Helper()
	e, want := x.b.Put(m), x.m.put(m)
	if e != want {
		x.t.Fatalf("Put(%+v) = %d, want %d", m, e, want)
	}
	x.agree("Put")
	return e
}

// holdAcked is the message that Acked removes.
func (x *both) holdAcked(xid int) (api.Message, bool) {
	x.t.Helper()
	m, is := x.b.Acked(xid)
	if want, wantIs := x.m.acked(xid); m != want || is != wantIs {
		x.t.Fatalf("Acked(%d) = %+v, %t, want %+v, %t", xid, m, is, want, wantIs)
	}
	x.agree("Acked")
	return m, is
}

// holdTick is the messages that Tick sends.
func (x *both) holdTick(now int) ([]api.Message, api.Errno) {
	x.t.Helper()
	l, e := x.b.Tick(now)
	if want, wantE := x.m.tick(now); !slices.Equal(l, want) || e != wantE {
		x.t.Fatalf("Tick(%d) = %+v, %d, want %+v, %d", now, l, e, want, wantE)
	}
	x.agree("Tick")
	return l, e
}

// again is Again of both.
func (x *both) again() {
	x.t.Helper()
	x.b.Again()
	x.m.again()
	x.agree("Again")
}

// put fails unless all of the messages are taken.
func (x *both) put(l ...api.Message) {
	x.t.Helper()
	for _, m := range l {
		if e := x.holdPut(m); e != api.OK {
			x.t.Fatalf("Put(%+v) = %d, want OK", m, e)
		}
	}
}

// refuse fails unless m is refused for the reason want.
func (x *both) refuse(m api.Message, want api.Errno) {
	x.t.Helper()
	if e := x.holdPut(m); e != want {
		x.t.Fatalf("Put(%+v) = %d, want %d", m, e, want)
	}
}

// tick fails unless these messages are sent at now.
func (x *both) tick(now int, want ...api.Message) {
	x.t.Helper()
	if l, e := x.holdTick(now); !slices.Equal(l, want) || e != api.OK {
		x.t.Fatalf("Tick(%d) = %+v, %d, want %+v, OK", now, l, e, want)
	}
}

// acked fails unless Acked removes want.
func (x *both) acked(xid int, want api.Message) {
	x.t.Helper()
	if m, is := x.holdAcked(xid); m != want || !is {
		x.t.Fatalf("Acked(%d) = %+v, %t, want %+v, true", xid, m, is, want)
	}
}

// none fails unless nothing is outstanding that has one of these numbers.
func (x *both) none(xids ...int) {
	x.t.Helper()
	for _, xid := range xids {
		if m, is := x.holdAcked(xid); m != (api.Message{}) || is {
			x.t.Fatalf("Acked(%d) = %+v, %t, want nothing, false", xid, m, is)
		}
	}
}

// tells fails unless Len, Last and Busy of the address 1 answer so.
func (x *both) tells(length, last int, busy bool) {
	x.t.Helper()
	if n, l, is := x.b.Len(), x.b.Last(), x.b.Busy(1); n != length || l != last || is != busy {
		x.t.Fatalf("Len, Last, Busy(1) = %d, %d, %t, want %d, %d, %t", n, l, is, length, last, busy)
	}
}

// noXids are numbers that no message ever has.
func noXids() []int {
	return []int{0, -1, -2, -mostXid, -1 << 32, math.MinInt, math.MinInt + 1, mostXid + 1, 1<<32 + 1, math.MaxInt - 1, math.MaxInt}
}

// wrongTimes are no moments.
func wrongTimes() []int {
	return []int{-1, -2, -3, -4, -most, math.MinInt, math.MinInt + 1, math.MinInt + 3, most + 1, most + 2, 2 * most, math.MaxInt - 1, math.MaxInt}
}

// P18.1: New

func TestNew(t *testing.T) {
	x := fresh(t)
	for _, now := range []int{0, 1, 3, most, 0} {
		x.tells(0, 0, false)
		x.tick(now)
		x.again()
		x.none(1, 2)
		x.none(noXids()...)
	}
	x.put(update(1, 5))
	x.tick(0, numbered(1, update(1, 5)))
}

func TestBoxesAreSeparate(t *testing.T) {
	x, y := fresh(t), fresh(t)
	x.put(update(1, 5), update(1, 6), update(2, 7))
	y.tells(0, 0, false)
	y.tick(9)
	y.none(1, 2)
	y.put(update(3, 8))
	y.acked(1, numbered(1, update(3, 8)))
	x.tells(2, 2, true)
	x.tick(9, numbered(1, update(1, 5)), numbered(2, update(2, 7)))
}

// P18.1: Put

func TestPutOnceTwiceAndThreeTimes(t *testing.T) {
	for count := 1; count <= 3; count++ {
		x := fresh(t)
		for n := range count {
			x.put(update(1, n))
			x.tells(1, 1, true)
		}
		x.tick(10, numbered(1, update(1, 0)))
		x.tick(13, numbered(1, update(1, 0)))
		x.acked(1, numbered(1, update(1, 0)))
		if count == 1 {
			x.tells(0, 1, false)
			x.tick(13)
			x.none(2)
			continue
		}
		// Only the one that was put last has waited.
		x.tells(1, 2, true)
		x.tick(13, numbered(2, update(1, count-1)))
		x.acked(2, numbered(2, update(1, count-1)))
		x.tells(0, 2, false)
		x.none(1, 2, 3)
		x.tick(20)
	}
}

func TestPutOfTheSameMessage(t *testing.T) {
	x := fresh(t)
	x.put(update(1, 5), update(1, 5))
	x.acked(1, numbered(1, update(1, 5)))
	x.tick(0, numbered(2, update(1, 5)))
	x.put(update(1, 5))
	x.acked(2, numbered(2, update(1, 5)))
	x.acked(3, numbered(3, update(1, 5)))
	x.tells(0, 3, false)
}

func TestPutOfLifeSeenAndXid(t *testing.T) {
	numbers := []int{
		0, 1, 2, 7, 1 << 29, 1<<29 + 1, mostXid, mostXid + 1, 1 << 40, math.MaxInt, -1, -3, math.MinInt,
	}
	for _, n := range numbers {
		for _, m := range []api.Message{
			{Life: n}, {Seen: n}, {Xid: n}, {Life: n, Seen: 3, Xid: 4}, {Life: 5, Seen: n, Xid: 6}, {Life: n, Seen: n, Xid: n},
		} {
			one, two := update(1, 5), update(1, 6)
			one.Life, one.Seen, one.Xid = m.Life, m.Seen, m.Xid
			two.Life, two.Seen, two.Xid = m.Life, m.Seen, m.Xid
			x := fresh(t)
			x.put(one, two)
			x.tells(1, 1, true)
			x.tick(4, numbered(1, update(1, 5)))
			x.acked(1, numbered(1, update(1, 5)))
			x.tick(4, numbered(2, update(1, 6)))
			x.acked(2, numbered(2, update(1, 6)))
			x.none(3, n)
		}
	}
}

func TestPutOfSeveralAddresses(t *testing.T) {
	x := fresh(t)
	addrs := []api.Addr{7, last, 0, 1, 1 << 31, last - 1, 1<<31 - 1}
	var first, second []api.Message
	for n, a := range addrs {
		x.put(update(a, n), update(a, 50+n), update(a, 100+n))
		first = append(first, numbered(n+1, update(a, n)))
	}
	x.tells(len(addrs), len(addrs), true)
	x.tick(0, first...)
	for n := range addrs {
		// In the other order, so that the last address has the next number.
		at := len(addrs) - 1 - n
		x.acked(at+1, first[at])
		second = append(second, numbered(len(addrs)+1+n, update(addrs[at], 100+at)))
	}
	x.tells(len(addrs), 2*len(addrs), true)
	x.tick(0, second...)
	for n, m := range second {
		x.tells(len(addrs)-n, 2*len(addrs), x.m.busy(1))
		x.acked(m.Xid, m)
	}
	x.tells(0, 2*len(addrs), false)
}

// Each valid message is sent as it was put.
func TestPutOfEachField(t *testing.T) {
	var l []api.Message
	for bind := range 6 {
		for _, client := range []string{"", "a", "\x00", "\xff\x00", strings.Repeat("x", 31), strings.Repeat("x", 32)} {
			l = append(l, api.Message{Kind: 2, Addr: 9, Bind: bind, Client: client, Pot: 4, At: 5})
		}
	}
	for _, a := range []api.Addr{0, 1, 1 << 31, last} {
		for _, moment := range []int{0, 1, most - 1, most} {
			l = append(l, api.Message{Kind: 2, Addr: a, Pot: moment, At: 7}, api.Message{Kind: 2, Addr: a, Pot: 7, At: moment})
		}
	}
	x := fresh(t)
	for n, m := range l {
		x.put(m)
		x.tick(n, numbered(n+1, m))
		x.acked(n+1, numbered(n+1, m))
	}
	x.put(l...)
	x.again()
	for len(x.m.out) > 0 {
		x.holdTick(0)
		x.acked(x.m.out[0].m.Xid, x.m.out[0].m)
	}
}

// wrong is messages of the address a that Put refuses, one for each reason, and
// some for several.
func wrong(a api.Addr) []api.Message {
	l := []api.Message{
		{Kind: 1, Addr: a}, {Kind: 3, Addr: a}, {Kind: 4, Addr: a}, {Kind: 5, Addr: a},
		{Kind: 1}, {Kind: 1, State: 3}, {Kind: 3}, {Kind: 3, Ok: true}, {Kind: 4}, {Kind: 5}, {},
		{Kind: 1, Life: 1, Seen: 2, Xid: 4, State: 3}, {Kind: 3, Life: 1, Xid: 4, Ok: true}, {Kind: 4, Life: 1}, {Kind: 5, Life: 1},
	}
	for _, kind := range []int{-1, 0, 6, 7, 258, 1<<32 + 2, math.MinInt, math.MaxInt} {
		m := update(a, 1)
		m.Kind = kind
		l = append(l, m)
	}
	for _, n := range []int{-1, 6, -256, 256, 1<<32 + 1, math.MinInt, math.MaxInt} {
		m := update(a, 1)
		m.Bind = n
		l = append(l, m)
	}
	for _, n := range []int{-1, -most, most + 1, 1 << 48, 1<<48 + 1, math.MinInt, math.MaxInt} {
		pot, at := update(a, n), update(a, 1)
		at.At = n
		l = append(l, pot, at)
	}
	for _, n := range []int{33, 34, 256, 257, 288} {
		m := update(a, 1)
		m.Client = strings.Repeat("x", n)
		l = append(l, m)
	}
	for _, n := range []int{1, 3, 8, 9, -1, math.MinInt, math.MaxInt} {
		m := update(a, 1)
		m.State = n
		l = append(l, m)
	}
	ok := update(a, 1)
	ok.Ok = true
	all := api.Message{Kind: 2, Life: -1, Seen: -1, Xid: -1, State: -1, Addr: a, Bind: -1, Client: strings.Repeat("x", 33), Pot: -1, At: -1, Ok: true}
	return append(l, ok, all)
}

// What is refused changes nothing, whatever its Life, Seen and Xid.
func TestPutRefuses(t *testing.T) {
	for _, m := range wrong(1) {
		for _, n := range []int{0, 1, -1, math.MaxInt} {
			if n != 0 {
				m.Life, m.Seen, m.Xid = n, n, n
			}
			x := fresh(t)
			x.refuse(m, api.ErrForm)
			x.tells(0, 0, false)
			x.tick(1)
			x.none(1)
			x.put(update(1, 5))
			x.refuse(m, api.ErrForm)
			x.tells(1, 1, true)
			x.put(update(1, 6))
			x.refuse(m, api.ErrForm)
			x.tick(1, numbered(1, update(1, 5)))
			x.refuse(m, api.ErrForm)
			x.tick(3)
			x.acked(1, numbered(1, update(1, 5)))
			x.refuse(m, api.ErrForm)
			x.tick(3, numbered(2, update(1, 6)))
			x.acked(2, numbered(2, update(1, 6)))
			x.refuse(m, api.ErrForm)
			x.tells(0, 2, false)
		}
	}
}

func TestPutRefusesALongClient(t *testing.T) {
	for _, n := range []int{1 << 16, 1 << 20, 1<<24 + 32} {
		m := update(1, 5)
		m.Client = strings.Repeat("x", n)
		x := fresh(t)
		x.refuse(m, api.ErrForm)
		x.put(update(1, 6))
		x.refuse(m, api.ErrForm)
		x.tick(0, numbered(1, update(1, 6)))
		x.tells(1, 1, true)
	}
}

// Behind Acked an address is as it was, but for the numbers.
func TestPutBehindAcked(t *testing.T) {
	x := fresh(t)
	for n := range 10 {
		x.put(update(1, n))
		x.tells(1, n+1, true)
		if n%2 == 0 {
			x.tick(7, numbered(n+1, update(1, n)))
		}
		x.acked(n+1, numbered(n+1, update(1, n)))
		x.tells(0, n+1, false)
	}
	x.put(update(1, 20), update(1, 21))
	x.acked(11, numbered(11, update(1, 20)))
	// What waited is outstanding now, so the next one waits.
	x.put(update(1, 22), update(1, 23))
	x.tick(7, numbered(12, update(1, 21)))
	x.acked(12, numbered(12, update(1, 21)))
	x.tick(7, numbered(13, update(1, 23)))
}

// Each number is assigned once, from 1 on.
func TestNumbers(t *testing.T) {
	x := fresh(t)
	seen := map[int]bool{}
	for n := range 300 {
		x.put(update(api.Addr(n%7), n))
		l, _ := x.holdTick(4 * n)
		for _, m := range l {
			seen[m.Xid] = true
		}
		if n%3 == 0 {
			x.holdAcked(l[0].Xid)
		}
	}
	for xid := range x.b.Last() {
		if !seen[xid+1] {
			t.Errorf("no message has the number %d", xid+1)
		}
	}
	if len(seen) != x.b.Last() || seen[0] {
		t.Errorf("%d numbers, up to %d", len(seen), x.b.Last())
	}
}

// The end of the numbers: the greatest one is 2^30.

func TestPutAtTheEndOfNumbers(t *testing.T) {
	for before := range 4 {
		x := from(t, mostXid-before)
		var want []api.Message
		for n := range before {
			x.put(update(api.Addr(n), n))
			want = append(want, numbered(mostXid-before+n+1, update(api.Addr(n), n)))
		}
		for _, a := range []api.Addr{0, 1, 2, 3, last} {
			x.refuse(update(a, 9), api.ErrFull)
		}
		// The form comes first.
		for _, m := range wrong(1) {
			x.refuse(m, api.ErrForm)
		}
		x.tells(before, mostXid, before > 1)
		x.tick(0, want...)
		x.again()
		x.tick(0, want...)
		x.tick(2)
		x.tick(3, want...)
		for _, m := range want {
			x.acked(m.Xid, m)
			x.refuse(update(m.Addr, 9), api.ErrFull)
		}
		x.tells(0, mostXid, false)
		x.tick(10)
	}
}

// What waits when no number is left is not issued any more, but it does wait.
func TestWaitingAtTheEndOfNumbers(t *testing.T) {
	x := from(t, mostXid-2)
	x.put(update(1, 5), update(1, 6), update(2, 7))
	x.tells(2, mostXid, true)
	x.refuse(update(1, 8), api.ErrFull)
	x.tick(1, numbered(mostXid-1, update(1, 5)), numbered(mostXid, update(2, 7)))
	x.acked(mostXid-1, numbered(mostXid-1, update(1, 5)))
	x.tells(2, mostXid, true)
	x.refuse(update(1, 8), api.ErrFull)
	x.again()
	x.tick(4, numbered(mostXid, update(2, 7)))
	x.none(mostXid-1, mostXid+1, mostXid+2)
	x.acked(mostXid, numbered(mostXid, update(2, 7)))
	x.tells(1, mostXid, true)
	x.tick(9)
	x.again()
	x.tick(9)
	x.none(mostXid-1, mostXid, mostXid+1, 0, 1)
	x.tells(1, mostXid, true)
	if x.b.Busy(2) || x.b.Busy(0) {
		t.Error("another address is busy")
	}
}

// What waits gets the last number, too.
func TestWaitingGetsTheLastNumber(t *testing.T) {
	x := from(t, mostXid-2)
	x.put(update(1, 5), update(1, 6))
	x.acked(mostXid-1, numbered(mostXid-1, update(1, 5)))
	x.tells(1, mostXid, true)
	x.tick(0, numbered(mostXid, update(1, 6)))
	x.acked(mostXid, numbered(mostXid, update(1, 6)))
	x.tells(0, mostXid, false)
}

// P18.1: Acked

func TestAckedOfWhatNothingWaitsFor(t *testing.T) {
	x := fresh(t)
	x.put(update(1, 5), update(2, 6), update(3, 7))
	x.tick(0, numbered(1, update(1, 5)), numbered(2, update(2, 6)), numbered(3, update(3, 7)))
	x.acked(2, numbered(2, update(2, 6)))
	x.none(2, 4)
	x.none(noXids()...)
	x.tells(2, 3, true)
	x.tick(3, numbered(1, update(1, 5)), numbered(3, update(3, 7)))
	x.acked(1, numbered(1, update(1, 5)))
	x.tells(1, 3, false)
	x.none(1, 2)
	x.tick(6, numbered(3, update(3, 7)))
	x.acked(3, numbered(3, update(3, 7)))
	x.none(1, 2, 3, 4)
	x.tick(9)
	x.tells(0, 3, false)
}

func TestAckedOfWhatOneWaitsFor(t *testing.T) {
	x := fresh(t)
	x.put(update(1, 5), update(2, 6), update(1, 7), update(2, 8))
	x.tick(10, numbered(1, update(1, 5)), numbered(2, update(2, 6)))
	x.acked(2, numbered(2, update(2, 6)))
	x.none(2)
	x.none(noXids()...)
	x.tells(2, 3, true)
	// What is issued is sent at once, whenever the others were.
	x.tick(10, numbered(3, update(2, 8)))
	x.acked(1, numbered(1, update(1, 5)))
	x.none(1)
	x.tells(2, 4, true)
	x.tick(9, numbered(4, update(1, 7)))
	x.acked(3, numbered(3, update(2, 8)))
	x.acked(4, numbered(4, update(1, 7)))
	x.none(1, 2, 3, 4, 5)
	x.tells(0, 4, false)
}

// It need not have been sent.
func TestAckedAheadOfTick(t *testing.T) {
	x := fresh(t)
	x.put(update(1, 5), update(2, 6), update(1, 7))
	x.acked(1, numbered(1, update(1, 5)))
	x.acked(2, numbered(2, update(2, 6)))
	x.none(1, 2)
	x.tick(0, numbered(3, update(1, 7)))
}

// An address's next number is another one's, even if it was acknowledged twice.
func TestAckedTwice(t *testing.T) {
	x := fresh(t)
	x.put(update(1, 5), update(1, 6))
	x.acked(1, numbered(1, update(1, 5)))
	x.put(update(1, 7))
	x.none(1, 1)
	x.tells(1, 2, true)
	x.tick(0, numbered(2, update(1, 6)))
	x.none(1)
	x.acked(2, numbered(2, update(1, 6)))
	x.none(2)
	x.tick(0, numbered(3, update(1, 7)))
}

// P18.2: Tick

func TestTickAtTheEdges(t *testing.T) {
	for _, now := range []int{0, 1, 2, 3, 4, 1 << 20, 1 << 32, most - 4, most - 3, most - 2, most - 1, most} {
		x := fresh(t)
		x.put(update(1, 5), update(2, 6), update(2, 7))
		x.tick(now, numbered(1, update(1, 5)), numbered(2, update(2, 6)))
		x.tick(now)
		x.acked(2, numbered(2, update(2, 6)))
		x.tick(now, numbered(3, update(2, 7)))
		x.tick(0)
		x.again()
		x.tick(now, numbered(1, update(1, 5)), numbered(3, update(2, 7)))
		if now <= most-3 {
			x.tick(now + 2)
			x.tick(most, numbered(1, update(1, 5)), numbered(3, update(2, 7)))
		} else {
			x.tick(most)
		}
	}
}

// An error changes nothing: what is to be sent remains so, and so does when the
// rest was sent.
func TestTickRefuses(t *testing.T) {
	for _, now := range wrongTimes() {
		refuse := func(x *both) {
			t.Helper()
			if l, e := x.holdTick(now); len(l) != 0 || e != api.ErrArg {
				t.Fatalf("Tick(%d) = %+v, %d, want nothing, ErrArg", now, l, e)
			}
		}
		x := fresh(t)
		refuse(x)
		x.put(update(1, 5), update(1, 6))
		refuse(x)
		x.tells(1, 1, true)
		x.tick(10, numbered(1, update(1, 5)))
		refuse(x)
		x.tick(12)
		refuse(x)
		x.tick(13, numbered(1, update(1, 5)))
		x.again()
		refuse(x)
		x.tick(13, numbered(1, update(1, 5)))
		x.acked(1, numbered(1, update(1, 5)))
		refuse(x)
		x.tick(0, numbered(2, update(1, 6)))
		refuse(x)
		x.tells(1, 2, true)
	}
}

func TestTickAfterTheLastOne(t *testing.T) {
	m := numbered(1, update(1, 5))
	for _, at := range []int{0, 1, 3, 10, most / 2, most - 4} {
		for _, later := range []int{3, 4} {
			x := fresh(t)
			x.put(update(1, 5))
			x.tick(at, m)
			x.tick(at)
			x.tick(at + 1)
			x.tick(at + 2)
			x.tick(at+later, m)
			x.tick(at + later)
		}
	}
	// It counts from when it was sent last, not first.
	x := fresh(t)
	x.put(update(1, 5))
	for _, now := range []int{10, 13, 17, 20, 25, 1000, 1003, most} {
		x.tick(now, m)
		x.tick(min(now+2, most))
	}
}

// Before the last one nothing is sent again, however long before, and nothing
// changes by that.
func TestTickBeforeTheLastOne(t *testing.T) {
	m, n := numbered(1, update(1, 5)), numbered(2, update(2, 6))
	x := fresh(t)
	x.put(update(1, 5))
	x.tick(100, m)
	for _, now := range []int{99, 98, 97, 96, 50, 3, 2, 1, 0, 102} {
		x.tick(now)
	}
	// What is new is sent at any moment, which is then its own last one.
	x.put(update(2, 6))
	x.tick(50, n)
	x.tick(52)
	x.tick(53, n)
	x.tick(102, n)
	x.tick(103, m)
	x.tick(104)
	x.tick(105, n)
	x.tick(106, m)
	x.tick(most, m, n)
	x.tick(0)
	x.tick(most - 1)
}

// What was sent at different moments is sent again at different ones, but by
// numbers where both are.
func TestTickOfSeveral(t *testing.T) {
	one, two, three := numbered(1, update(9, 5)), numbered(2, update(1, 6)), numbered(3, update(5, 7))
	x := fresh(t)
	x.put(update(9, 5))
	x.tick(10, one)
	x.put(update(1, 6))
	x.tick(11, two)
	x.put(update(5, 7))
	x.tick(12, three)
	x.tick(13, one)
	x.tick(14, two)
	x.tick(15, three)
	x.tick(17, one, two)
	x.tick(18, three)
	x.tick(21, one, two, three)
}

// By numbers, neither by addresses nor in the order of a map.
func TestTickIsByNumbers(t *testing.T) {
	r := rand.New(rand.NewSource(180))
	x := fresh(t)
	for n := range 500 {
		x.put(update(api.Addr(r.Uint32()), n))
	}
	for now := range 6 {
		l, _ := x.holdTick(3 * now)
		if len(l) != 500 || !slices.IsSortedFunc(l, func(a, b api.Message) int { return a.Xid - b.Xid }) {
			t.Fatalf("%d messages, by numbers: %+v", len(l), l)
		}
		x.again()
	}
}

// P18.2: Again, Len, Last, Busy

func TestAgain(t *testing.T) {
	m, n := numbered(1, update(1, 5)), numbered(2, update(2, 6))
	x := fresh(t)
	x.again()
	x.tick(0)
	x.put(update(1, 5), update(1, 7), update(2, 6))
	x.again()
	x.tick(10, m, n)
	x.again()
	x.tells(2, 2, true)
	x.tick(10, m, n)
	x.tick(10)
	x.again()
	x.again()
	x.tick(0, m, n)
	x.tick(2)
	x.tick(3, m, n)
	// What waits is not sent, but what is issued behind it is, once.
	x.again()
	x.acked(1, m)
	x.tick(most, n, numbered(3, update(1, 7)))
	x.tick(most)
	x.again()
	x.tick(most-1, n, numbered(3, update(1, 7)))
	x.acked(2, n)
	x.acked(3, numbered(3, update(1, 7)))
	x.again()
	x.tick(most)
	x.tells(0, 3, false)
}

func TestLenLastAndBusy(t *testing.T) {
	x := fresh(t)
	x.tells(0, 0, false)
	x.put(update(1, 5))
	x.tells(1, 1, true)
	x.put(update(1, 6))
	x.tells(1, 1, true)
	x.put(update(2, 7))
	x.tells(2, 2, true)
	x.tick(0, numbered(1, update(1, 5)), numbered(2, update(2, 7)))
	x.tells(2, 2, true)
	x.none(0, 3)
	x.tells(2, 2, true)
	x.acked(1, numbered(1, update(1, 5)))
	x.tells(2, 3, true)
	x.again()
	x.tells(2, 3, true)
	x.acked(3, numbered(3, update(1, 6)))
	x.tells(1, 3, false)
	x.refuse(api.Message{Kind: api.All}, api.ErrForm)
	x.tells(1, 3, false)
	x.acked(2, numbered(2, update(2, 7)))
	x.tells(0, 3, false)
	x.put(update(1, 8))
	x.tells(1, 4, true)
	for _, a := range []api.Addr{0, 2, 1<<31 + 1, 1 << 16, last} {
		if x.b.Busy(a) {
			t.Errorf("Busy(%d)", a)
		}
	}
}

func TestBusyAtTheEdges(t *testing.T) {
	for _, a := range []api.Addr{0, 1, 1<<31 - 1, 1 << 31, last - 1, last} {
		x := fresh(t)
		x.put(update(a, 5))
		if !x.b.Busy(a) || x.b.Busy(a+1) || x.b.Busy(a-1) {
			t.Errorf("Busy of %d, and of those beside it", a)
		}
		x.put(update(a, 6))
		x.holdAcked(1)
		if !x.b.Busy(a) {
			t.Errorf("Busy(%d): it was issued", a)
		}
		x.holdAcked(2)
		if x.b.Busy(a) {
			t.Errorf("Busy(%d): nothing is there", a)
		}
	}
}

// Random calls of all kinds

// anyUpdate is a random message of an address below so many, or at the end; few
// of them are not valid.
func anyUpdate(r *rand.Rand, addrs int) api.Message {
	m := update(api.Addr(r.Intn(addrs)), r.Intn(1000))
	m.Bind, m.Client, m.At = r.Intn(6), strings.Repeat("y", r.Intn(33)), r.Intn(1000)
	m.Life, m.Seen, m.Xid = r.Intn(3), r.Intn(3), r.Intn(3)-1
	switch r.Intn(12) {
	case 0:
		l := wrong(m.Addr)
		m = l[r.Intn(len(l))]
	case 1:
		m.Addr = last - m.Addr
	}
	return m
}

// anyMoment is a random one, most often some ticks later than now; few are none.
func anyMoment(r *rand.Rand, now int) int {
	switch r.Intn(20) {
	case 0:
		return wrongTimes()[r.Intn(len(wrongTimes()))]
	case 1:
		return r.Intn(most + 1)
	case 2:
		return most - r.Intn(5)
	case 3:
		return max(now-r.Intn(6), 0)
	}
	return now + r.Intn(5)
}

// anyXid is a random number: most often one that is near the greatest.
func anyXid(r *rand.Rand, greatest int) int {
	switch r.Intn(10) {
	case 0:
		return noXids()[r.Intn(len(noXids()))]
	case 1:
		return greatest + 1
	case 2:
		return 1 + r.Intn(greatest+1)
	}
	return greatest - r.Intn(6)
}

// anyCalls makes random calls of x, of few addresses or of many.
func anyCalls(x *both, r *rand.Rand, count int) {
	x.t.Helper()
	addrs := []int{1, 2, 3, 10, 40}[r.Intn(5)]
	puts := 1 + r.Intn(6)
	now := r.Intn(20)
	for range count {
		switch n := r.Intn(14); {
		case n < puts:
			x.holdPut(anyUpdate(r, addrs))
		case n < 10:
			x.holdAcked(anyXid(r, x.m.last))
		case n < 13:
			at := anyMoment(r, now)
			x.holdTick(at)
			if at >= now && at < now+5 {
				now = at
			}
		default:
			x.again()
		}
	}
}

func TestRandomCalls(t *testing.T) {
	r := rand.New(rand.NewSource(181))
	for range 3000 {
		anyCalls(fresh(t), r, 60)
	}
}

func TestRandomCallsAtTheEndOfNumbers(t *testing.T) {
	r := rand.New(rand.NewSource(182))
	ended, waited := 0, 0
	for range 3000 {
		x := from(t, mostXid-r.Intn(25))
		anyCalls(x, r, 80)
		if x.m.last == mostXid {
			ended++
		}
		if len(x.m.waits) > 0 && x.m.outstanding(x.m.waits[0].Addr) < 0 {
			waited++
		}
	}
	if ended < 100 || waited < 20 {
		t.Errorf("%d boxes came to the end of numbers, in %d something waits for ever", ended, waited)
	}
}

func FuzzBox(f *testing.F) {
	f.Add([]byte{0, 1, 0, 1, 40, 20, 23, 41, 60, 61, 62, 20})
	f.Add([]byte{255, 0, 1, 2, 3, 0, 1, 2, 3, 40, 41, 42, 43, 20, 63, 20})
	f.Fuzz(func(t *testing.T, calls []byte) {
		x := fresh(t)
		if len(calls) > 0 && calls[0] > 250 {
			x = from(t, mostXid-len(calls)/4)
		}
		for n, c := range calls {
			switch c >> 6 {
			case 0:
				x.holdPut(update(api.Addr(c&15), n))
			case 1:
				x.holdAcked(x.m.last - int(c&15))
			case 2:
				x.holdTick(n + int(c&15))
			default:
				x.again()
			}
		}
	})
}

// P18.3: News, Take, Note

// of is a message of which Take and Note look at the address and the number alone.
func of(a api.Addr, xid int) api.Message {
	return api.Message{Addr: a, Xid: xid}
}

// takes fails unless Take answers so.
func takes(t *testing.T, s *outbox.Seen, m api.Message, newer, ok, same bool) {
	t.Helper()
	if n, o, is := s.Take(m); n != newer || o != ok || is != same {
		t.Fatalf("Take(%d of %d) = %t, %t, %t, want %t, %t, %t", m.Xid, m.Addr, n, o, is, newer, ok, same)
	}
}

// noted fails unless s has noted the number xid, above 0, and the answer ok of a.
func noted(t *testing.T, s *outbox.Seen, a api.Addr, xid int, ok bool) {
	t.Helper()
	for _, lower := range []int{math.MinInt, math.MinInt + 1, -mostXid, -1, 0, 1, 2, xid / 2, xid - 2, xid - 1} {
		if lower < xid {
			takes(t, s, of(a, lower), false, false, false)
		}
	}
	takes(t, s, of(a, xid), false, ok, true)
	for _, higher := range []int{xid, mostXid - 1, mostXid, mostXid + 1, 1 << 40, math.MaxInt - 1} {
		if higher >= xid && higher < math.MaxInt {
			takes(t, s, of(a, higher+1), true, false, false)
		}
	}
}

// unknown fails unless nothing is noted of a.
func unknown(t *testing.T, s *outbox.Seen, a api.Addr) {
	t.Helper()
	for _, xid := range []int{0, -1, -2, -mostXid, -1 << 32, math.MinInt, math.MinInt + 1} {
		takes(t, s, of(a, xid), false, false, false)
	}
	for _, xid := range []int{1, 2, 3, mostXid - 1, mostXid, mostXid + 1, 1 << 32, math.MaxInt - 1, math.MaxInt} {
		takes(t, s, of(a, xid), true, false, false)
	}
}

func TestNews(t *testing.T) {
	s := outbox.News()
	for range 2 {
		// Take notes nothing.
		for _, a := range []api.Addr{0, 1, 2, 1 << 31, last - 1, last} {
			unknown(t, s, a)
		}
	}
	s.Note(of(1, 5), true)
	unknown(t, outbox.News(), 1)
	noted(t, s, 1, 5, true)
}

func TestNoteOfEachNumber(t *testing.T) {
	for _, ok := range []bool{true, false} {
		for _, xid := range []int{1, 2, 3, 5, mostXid - 1, mostXid, mostXid + 1, 1 << 40, math.MaxInt - 1, math.MaxInt} {
			s := outbox.News()
			s.Note(of(7, xid), ok)
			noted(t, s, 7, xid, ok)
			unknown(t, s, 6)
			unknown(t, s, 8)
			unknown(t, s, 0)
		}
		for _, xid := range []int{0, -1, -2, -mostXid, math.MinInt, math.MinInt + 1} {
			s := outbox.News()
			s.Note(of(7, xid), ok)
			unknown(t, s, 7)
			s.Note(of(7, 5), !ok)
			s.Note(of(7, xid), ok)
			noted(t, s, 7, 5, !ok)
		}
	}
}

func TestNoteTwice(t *testing.T) {
	for _, first := range []bool{true, false} {
		for _, second := range []bool{true, false} {
			for _, lower := range []int{math.MinInt, -5, -1, 0, 1, 4} {
				s := outbox.News()
				s.Note(of(1, 5), first)
				s.Note(of(1, lower), second)
				noted(t, s, 1, 5, first)
			}
			s := outbox.News()
			s.Note(of(1, 5), first)
			s.Note(of(1, 5), second)
			noted(t, s, 1, 5, first)
			for _, higher := range []int{6, 9, mostXid, math.MaxInt} {
				s.Note(of(1, higher), second)
				noted(t, s, 1, higher, second)
				s.Note(of(1, higher), !second)
				s.Note(of(1, 5), !second)
				noted(t, s, 1, higher, second)
			}
		}
	}
}

func TestNoteOfSeveralAddresses(t *testing.T) {
	s := outbox.News()
	addrs := []api.Addr{0, 1, 2, 1<<31 - 1, 1 << 31, last - 1, last}
	for n, a := range addrs {
		unknown(t, s, a)
		s.Note(of(a, 10+n), n%2 == 0)
		for m, other := range addrs[:n+1] {
			noted(t, s, other, 10+m, m%2 == 0)
		}
	}
	s.Note(of(1, 100), true)
	noted(t, s, 1, 100, true)
	noted(t, s, 0, 10, true)
	noted(t, s, 2, 12, true)
	unknown(t, s, 3)
}

// Only the address and the number of a message count, whether it is valid or not.
func TestNoteOfAnyMessage(t *testing.T) {
	for n, m := range append(wrong(1), update(1, 5), update(1, most)) {
		m.Addr, m.Xid = 1, 5
		s := outbox.News()
		takes(t, s, m, true, false, false)
		s.Note(m, n%2 == 0)
		noted(t, s, 1, 5, n%2 == 0)
		takes(t, s, m, false, n%2 == 0, true)
		m.Xid = 4
		takes(t, s, m, false, false, false)
		m.Xid, m.Ok, m.Life = 6, !m.Ok, m.Life+1
		takes(t, s, m, true, false, false)
	}
}

func TestRandomNotes(t *testing.T) {
	type note struct {
		xid int
		ok  bool
	}
	r := rand.New(rand.NewSource(183))
	for range 2000 {
		s := outbox.News()
		var known [4]note
		for range 30 {
			a, xid, ok := r.Intn(4), r.Intn(12)-2, r.Intn(2) == 0
			if r.Intn(20) == 0 {
				xid = int(r.Uint64())
			}
			k := known[a]
			same := k.xid > 0 && xid == k.xid
			takes(t, s, of(api.Addr(a), xid), xid > k.xid, same && k.ok, same)
			if r.Intn(2) == 0 {
				s.Note(of(api.Addr(a), xid), ok)
				if xid > k.xid {
					known[a] = note{xid, ok}
				}
			}
		}
	}
}

// P18.4: the theorem

// wire is what is on its way between a box and a record, in any order, some of it
// twice.
type wire struct {
	r       *rand.Rand
	updates []api.Message
	acks    []int
}

// carry puts something on its way in l: it may be lost, or doubled.
func carry[T any](r *rand.Rand, l []T, one T) []T {
	for range r.Intn(3) {
		l = append(l, one)
	}
	return l
}

// pick takes any one of l off it.
func pick[T any](r *rand.Rand, l []T) (T, []T) {
	n := r.Intn(len(l))
	one := l[n] // ahead of Delete, which moves the others
	return one, slices.Delete(l, n, n+1)
}

// talk is a box and a record with a wire between them, and what the theorem is
// about: what was put last of each address, what was accepted of each.
type talk struct {
	t        *testing.T
	b        *outbox.Box
	s        *outbox.Seen
	w        wire
	now      int
	put      map[api.Addr][]api.Message // all that was put
	sent     map[int]api.Message        // all that was sent, by numbers
	acked    map[int]bool
	accepted map[api.Addr][]api.Message
}

func begin(t *testing.T, r *rand.Rand) *talk {
	return &talk{
		t: t, b: outbox.New(), s: outbox.News(), w: wire{r: r}, put: map[api.Addr][]api.Message{},
		sent: map[int]api.Message{}, acked: map[int]bool{}, accepted: map[api.Addr][]api.Message{},
	}
}

// change puts an update that no other one is like.
func (x *talk) change(a api.Addr) {
	x.t.Helper()
	m := update(a, len(x.put[a]))
	if e := x.b.Put(m); e != api.OK {
		x.t.Fatalf("Put(%+v) = %d", m, e)
	}
	x.put[a] = append(x.put[a], m)
}

// send is a tick of the box. Of each address at most one message is on its way
// that was not acknowledged, and a number has one message for ever.
func (x *talk) send() {
	x.t.Helper()
	x.now++
	l, e := x.b.Tick(x.now)
	if e != api.OK {
		x.t.Fatalf("Tick(%d) = %d", x.now, e)
	}
	one := map[api.Addr]bool{}
	for _, m := range l {
		if old, is := x.sent[m.Xid]; is && old != m || x.acked[m.Xid] || one[m.Addr] {
			x.t.Fatalf("Tick(%d) = %+v", x.now, l)
		}
		one[m.Addr] = true
		x.sent[m.Xid] = m
		x.w.updates = carry(x.w.r, x.w.updates, m)
	}
	unanswered := map[api.Addr]int{}
	for xid, m := range x.sent {
		if !x.acked[xid] {
			unanswered[m.Addr]++
		}
	}
	for a, count := range unanswered {
		if count > 1 {
			x.t.Fatalf("%d messages of %d are out", count, a)
		}
	}
}

// hear is the other side's taking one that is on its way: it is accepted if it is
// newer, and answered if it is not older; every third number's answer is false.
func (x *talk) hear() {
	x.t.Helper()
	if len(x.w.updates) == 0 {
		return
	}
	var m api.Message
	m, x.w.updates = pick(x.w.r, x.w.updates)
	newer, ok, same := x.s.Take(m)
	of := x.accepted[m.Addr]
	if same {
		if len(of) == 0 || of[len(of)-1] != m || ok != (m.Xid%3 != 0) {
			x.t.Fatalf("%+v is taken for %+v, with %t", m, of, ok)
		}
	}
	if newer {
		for _, old := range of {
			if old.Xid >= m.Xid || old.Pot >= m.Pot {
				x.t.Fatalf("%+v is accepted after %+v", m, old)
			}
		}
		x.s.Note(m, m.Xid%3 != 0)
		x.accepted[m.Addr] = append(of, m)
	}
	if newer || same {
		x.w.acks = carry(x.w.r, x.w.acks, m.Xid)
	} else if len(of) == 0 || of[len(of)-1].Xid <= m.Xid {
		x.t.Fatalf("%+v is refused after %+v", m, of)
	}
}

// answer is the box's hearing one of the answers on their way.
func (x *talk) answer() {
	x.t.Helper()
	if len(x.w.acks) == 0 {
		return
	}
	var xid int
	xid, x.w.acks = pick(x.w.r, x.w.acks)
	m, is := x.b.Acked(xid)
	if is == x.acked[xid] || is && m != x.sent[xid] {
		x.t.Fatalf("Acked(%d) = %+v, %t; it was acknowledged: %t", xid, m, is, x.acked[xid])
	}
	x.acked[xid] = true
}

// finish lets no more be put, and all be heard in the end. What was put last of
// each address was then sent, and accepted, last.
func (x *talk) finish() {
	x.t.Helper()
	for range 3000 {
		x.send()
		x.hear()
		x.answer()
		if x.b.Len() == 0 {
			break
		}
	}
	if x.b.Len() != 0 {
		x.t.Fatalf("%d addresses are never acknowledged", x.b.Len())
	}
	newest := map[api.Addr]api.Message{}
	for _, m := range x.sent {
		if m.Xid > newest[m.Addr].Xid {
			newest[m.Addr] = m
		}
	}
	for a, l := range x.put {
		of := x.accepted[a]
		if len(of) == 0 || of[len(of)-1] != newest[a] || numbered(0, newest[a]) != numbered(0, l[len(l)-1]) {
			x.t.Fatalf("of %d, %+v was put last, %+v sent, and %+v accepted", a, l[len(l)-1], newest[a], of)
		}
	}
}

func TestUpdatesOverAWireThatLosesDoublesAndReorders(t *testing.T) {
	r := rand.New(rand.NewSource(184))
	older := 0
	for range 300 {
		x := begin(t, r)
		addrs := []api.Addr{0, 1, 7, last}[:1+r.Intn(4)]
		for range 150 {
			switch r.Intn(8) {
			case 0, 1:
				x.change(addrs[r.Intn(len(addrs))])
			case 2, 3:
				x.send()
			case 4, 5:
				x.hear()
			case 6:
				x.answer()
			default:
				if r.Intn(5) == 0 {
					x.b.Again()
				}
			}
		}
		x.finish()
		for _, l := range x.accepted {
			older += len(l)
		}
		for _, l := range x.put {
			older -= len(l)
		}
	}
	if older >= 0 {
		t.Error("nothing was ever replaced while it waited")
	}
}

// An outstanding message is sent every third tick until it is acknowledged, however
// often something is put behind it, and never after that.
func TestSentUntilAcknowledged(t *testing.T) {
	x := fresh(t)
	x.put(update(1, 0))
	for now := range 300 {
		x.put(update(1, now+1))
		if now%3 == 0 {
			x.tick(now, numbered(1, update(1, 0)))
		} else {
			x.tick(now)
		}
	}
	x.acked(1, numbered(1, update(1, 0)))
	for now := 300; now < 600; now++ {
		if now%3 == 0 {
			x.tick(now, numbered(2, update(1, 300)))
		} else {
			x.tick(now)
		}
	}
	x.acked(2, numbered(2, update(1, 300)))
	for now := 600; now < 700; now++ {
		x.tick(now)
	}
}

// P1, R3, R4

// What Tick returned is the caller's, and what it does to it changes nothing.
func TestNothingIsShared(t *testing.T) {
	x := fresh(t)
	x.put(update(1, 5), update(2, 6))
	one, _ := x.holdTick(10)
	x.again()
	two, _ := x.holdTick(10)
	for n := range one {
		one[n] = api.Message{Xid: 99, Addr: 98}
	}
	_ = append(one[:0], update(3, 7), update(4, 8))
	want := []api.Message{numbered(1, update(1, 5)), numbered(2, update(2, 6))}
	if !slices.Equal(two, want) {
		t.Errorf("a changed answer changed %+v", two)
	}
	x.tick(13, want...)
	x.none(99)
	x.acked(1, want[0])
	if !slices.Equal(two, want) {
		t.Errorf("Acked changed %+v", two)
	}
}

// The same calls have the same answers, which the order of a map would not leave so.
func TestTheSameCallsHaveTheSameAnswers(t *testing.T) {
	var answers [2][]api.Message
	for n := range answers {
		r := rand.New(rand.NewSource(185))
		b := outbox.New()
		for now := range 200 {
			for range 5 {
				b.Put(update(api.Addr(r.Intn(100)), r.Intn(1000)))
			}
			l, _ := b.Tick(now)
			answers[n] = append(answers[n], l...)
			m, _ := b.Acked(1 + r.Intn(b.Last()))
			answers[n] = append(answers[n], m)
			if now%20 == 0 {
				b.Again()
			}
		}
	}
	if !slices.Equal(answers[0], answers[1]) {
		t.Error("two boxes answer the same calls differently")
	}
}

// There may be more addresses than a pool has.
func TestManyAddresses(t *testing.T) {
	const count = 20000
	b, s := outbox.New(), outbox.News()
	for n := range count {
		b.Put(update(api.Addr(n)*20011, 1))
		b.Put(update(api.Addr(n)*20011, 2))
	}
	for now := range 4 {
		l, e := b.Tick(now)
		if e != api.OK || now%3 == 0 && len(l) != count || now%3 != 0 && len(l) != 0 {
			t.Fatalf("Tick(%d): %d messages, %d", now, len(l), e)
		}
		for n, m := range l {
			if m.Xid != n+1 || m.Addr != api.Addr(n)*20011 {
				t.Fatalf("the message %d of Tick(%d) is %+v", n, now, m)
			}
			if newer, _, same := s.Take(m); newer != (now == 0) || same == newer {
				t.Fatalf("Take(%+v) = %t, _, %t", m, newer, same)
			}
			s.Note(m, true)
		}
	}
	for n := range 2 * count {
		if m, is := b.Acked(n + 1); !is || m.Xid != n+1 || m.Pot != 1+n/count {
			t.Fatalf("Acked(%d) = %+v, %t", n+1, m, is)
		}
	}
	if b.Len() != 0 || b.Last() != 2*count {
		t.Errorf("Len() = %d, Last() = %d", b.Len(), b.Last())
	}
}
