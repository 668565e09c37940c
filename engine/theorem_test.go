package engine_test

import (
	"math/rand"
	"testing"

	"lessor/api"
	"lessor/clock"
	"lessor/grant"
	"lessor/packet"
	"lessor/table"
)

// P20.2: the tests of this file look at what is promised alone, and not at the
// words by which it is found.

// rulesOf is the rules of a site.
func rulesOf(x api.Site) grant.Rules {
	return grant.Rules{Id: x.Id, Lead: x.Lead, Guard: x.Guard}
}

// checkPromise fails unless what a, the answer to c, promises is the client's own,
// or may be given to it; is within the limits; and is recorded if it is an AckKind.
func checkPromise(t *testing.T, c call, a api.Answer) {
	t.Helper()
	l, e := c.t.Get(a.Reply.Yi)
	client := packet.Client(c.p)
	his := l.Bind == api.Active && l.Client == client
	if e != api.OK || !his && !rulesOf(c.x).May(l, c.state, c.now, c.entry) {
		t.Fatalf("%+v: %+v is promised", c, l)
	}
	acked := 0
	if his {
		acked = l.Acked
	}
	span := spanOf(a.Reply)[0]
	if bound := last(c.now, acked) + c.x.Lead; span < 1 || c.now+span > bound || span > c.x.Most {
		t.Fatalf("%+v: %+v is promised for %d", c, l, span)
	}
	if kindOf(a) == "offer" {
		if a.Change {
			t.Fatalf("%+v: an Offer changes %+v", c, a.Lease)
		}
		return
	}
	n := a.Lease
	if kindOf(a) != "ack" || !a.Change || n.Addr != l.Addr || n.Bind != api.Active || n.Client != client || n.Ver != l.Ver {
		t.Fatalf("%+v: %+v is answered, and %+v recorded", c, a.Reply, n)
	}
	if n.Until < c.now+span || n.At != c.now || a.Pot < n.Until {
		t.Fatalf("%+v: what is promised for %d is recorded as %+v, of which the other server knows %d", c, span, n, a.Pot)
	}
}

// Whatever is asked, each promise is right, and what promises nothing changes
// nothing but what its client gives back.
func TestPromisesAreRight(t *testing.T) {
	r := rand.New(rand.NewSource(2))
	promises, returned := 0, 0
	for range 30000 {
		c := anyCall(t, r)
		a := answer(t, c)
		if a.Reply.Yi != 0 {
			promises++
			checkPromise(t, c, a)
			continue
		}
		if !a.Change {
			continue
		}
		returned++
		l, e := c.t.Get(a.Lease.Addr)
		if e != api.OK || a.Send || a.Pot != 0 || l.Bind != api.Active || l.Client != packet.Client(c.p) ||
			a.Lease.Bind != api.Released && a.Lease.Bind != api.Abandoned {
			t.Fatalf("%+v: %+v becomes %+v", c, l, a)
		}
	}
	if promises < 3000 || returned < 200 {
		t.Errorf("only %d promises, and %d that were given back", promises, returned)
	}
}

// promise is what a client holds, by what it was told.
type promise struct {
	client string
	until  int
}

// promises are those of each address.
type promises map[api.Addr][]promise

// take adds what a, the answer to c, promises, and fails if another client holds
// the same address. What is given back is held no more.
func (l promises) take(t *testing.T, c call, a api.Answer) {
	t.Helper()
	client := packet.Client(c.p)
	if a.Change && !a.Send {
		var rest []promise
		for _, p := range l[a.Lease.Addr] {
			if p.client != client {
				rest = append(rest, p)
			}
		}
		l[a.Lease.Addr] = rest
	}
	if kindOf(a) != "ack" || a.Reply.Yi == 0 {
		return
	}
	for _, p := range l[a.Reply.Yi] {
		if p.client != client && p.until >= c.now {
			t.Fatalf("%+v: %d is promised, and %+v holds it", c, a.Reply.Yi, p)
		}
	}
	l[a.Reply.Yi] = append(l[a.Reply.Yi], promise{client: client, until: c.now + spanOf(a.Reply)[0]})
}

// keep does what a server would between two packets: something is acknowledged,
// what is over gets free again, and so does what was abandoned, once someone looked
// after it.
func keep(r *rand.Rand, c call) {
	for _, l := range c.t.All() {
		switch {
		case l.Bind == api.Active && r.Intn(3) == 0:
			l.Acked = last(l.Acked, l.Until+r.Intn(30))
		case (l.Bind == api.Active || l.Bind == api.Released) && clock.Past(c.now, l.Until, c.x.Guard) && r.Intn(2) == 0:
			l = api.Lease{Addr: l.Addr, Bind: r.Intn(2), Ver: l.Ver + 1}
		case l.Bind == api.Abandoned && r.Intn(20) == 0:
			l = api.Lease{Addr: l.Addr, Bind: r.Intn(2), Ver: l.Ver + 1}
		}
		c.t.Set(l)
	}
}

// small is a site of a few addresses, with short times.
func small(r *rand.Rand, id int) api.Site {
	x := site(id)
	x.Pool = []api.Range{{Low: 20, High: 23}}
	x.Lead, x.Guard, x.Want, x.Most = r.Intn(12), r.Intn(4), 1+r.Intn(20), 20+r.Intn(20)
	return x
}

// One server never lets two clients hold one address, in whatever states it is.
func TestNoTwoClientsHoldOneAddress(t *testing.T) {
	r := rand.New(rand.NewSource(3))
	seen := 0
	for range 300 {
		c := call{x: small(r, r.Intn(2)), now: r.Intn(100), state: api.Normal}
		c.t = tableOf(t, c.x, bare(21, api.Backup), bare(23, api.Backup))
		all := promises{}
		for range 200 {
			c.p = anyPacket(r)
			a := answer(t, c)
			if a.Reply.Yi != 0 {
				seen++
				checkPromise(t, c, a)
			}
			all.take(t, c, a)
			if a.Change {
				c.t.Set(a.Lease)
			}
			keep(r, c)
			c.now += r.Intn(6)
			if r.Intn(10) == 0 {
				c.state, c.entry = 1+r.Intn(3), c.now
			}
		}
	}
	if seen < 5000 {
		t.Errorf("only %d promises were seen", seen)
	}
}

// Two servers that know nothing of each other's promises, neither of which is in
// PartnerDown, never promise one address, not even to one client.
func TestTwoServersPromiseDifferentAddresses(t *testing.T) {
	r := rand.New(rand.NewSource(4))
	seen := 0
	for range 300 {
		var calls [2]call
		by := map[api.Addr]int{}
		first := 256 * r.Intn(2)
		for id := range 2 {
			x := small(r, id)
			x.First = first
			calls[id] = call{x: x, now: r.Intn(100), state: 1 + r.Intn(2), t: tableOf(t, x, bare(21, api.Backup), bare(22, api.Backup))}
		}
		for range 100 {
			c := &calls[r.Intn(2)]
			c.p = anyPacket(r)
			a := answer(t, *c)
			if a.Reply.Yi != 0 {
				seen++
				if id, is := by[a.Reply.Yi]; is && id != c.x.Id {
					t.Fatalf("%+v: %d is promised by both", c, a.Reply.Yi)
				}
				by[a.Reply.Yi] = c.x.Id
			}
			if a.Change {
				c.t.Set(a.Lease)
			}
			c.now += r.Intn(6)
			c.state = 1 + r.Intn(2)
		}
	}
	if seen < 3000 {
		t.Errorf("only %d promises were seen", seen)
	}
}

// In Normal, each client's Discover is answered by just one of two servers; in no
// other state is it left to the other one.
func TestOneOfTwoServersAnswers(t *testing.T) {
	r := rand.New(rand.NewSource(5))
	for range 3000 {
		first := r.Intn(257)
		name := make([]byte, 1+r.Intn(32))
		r.Read(name)
		for state := 1; state <= 3; state++ {
			many := 0
			for id := range 2 {
				x := site(id)
				x.First = first
				if answer(t, at(t, x, state, says(1, string(name)), mixed()...)).Send {
					many++
				}
			}
			if want := []int{1, 2, 2}[state-1]; many != want {
				t.Fatalf("in state %d with First %d, %d servers answer %q", state, first, many, name)
			}
		}
	}
}

// asks is a server's answer to a client that requests the address 20.
func asks(t *testing.T, x api.Site, tab *table.Table, state, now, entry int, client string) api.Answer {
	t.Helper()
	return answer(t, call{x: x, t: tab, state: state, now: now, entry: entry, p: says(3, client, ofAddr(20))})
}

// In PartnerDown, a server gives an address of which the other one has promised
// something only once that is over, by the other one's clock, which is at most
// Guard off: that one was up to entry, and what it takes for acknowledged is known
// here as Told.
func TestOthersAreGivenBehindTheirPromises(t *testing.T) {
	r := rand.New(rand.NewSource(6))
	given := 0
	for range 30000 {
		x := small(r, r.Intn(2))
		other := x
		other.Id = 1 - x.Id
		off := r.Intn(2*x.Guard+1) - x.Guard
		base := 50 + r.Intn(20)
		entry := base + r.Intn(30)
		told := base + r.Intn(40)

		// What is free is the other server's own; what is Active is so for both.
		ours, theirs := api.Lease{Addr: 20, Bind: other.Id}, api.Lease{Addr: 20, Bind: other.Id}
		if r.Intn(2) == 0 {
			ours = held(20, api.Active, "b", base+r.Intn(30), 0, told, 0)
			theirs = held(20, api.Active, "b", 0, told-r.Intn(5), 0, 0)
		}
		when := entry - r.Intn(10)
		theirsAt := clock.At(when, off)
		promised := asks(t, other, tableOf(t, other, theirs), api.Interrupted, theirsAt, 0, "b")
		now := entry + r.Intn(60)
		a := asks(t, x, tableOf(t, x, ours), api.PartnerDown, now, entry, "c")
		if !a.Change {
			continue
		}
		given++
		if promised.Change && clock.At(now, off) <= theirsAt+spanOf(promised.Reply)[0] {
			t.Fatalf("%+v at %d (entered at %d) gives %+v, of which the other server, %d off, promised %+v", x, now, entry, ours, off, promised)
		}
	}
	if given < 1000 {
		t.Errorf("only %d addresses were given", given)
	}
}

// However often a client asks, what is recorded for it is at most Lead beyond the
// greater one of now and what was acknowledged, but for what it was promised before.
func TestPromisesAreWithinLead(t *testing.T) {
	r := rand.New(rand.NewSource(7))
	for range 1000 {
		x := small(r, 0)
		c := call{x: x, t: tableOf(t, x), state: api.Normal, now: r.Intn(50)}
		for range 30 {
			was, _ := c.t.Get(20)
			c.p = says(3, "a", ofAddr(20), ofTime(r.Intn(60)))
			a := answer(t, c)
			if a.Change {
				if n := a.Lease.Until; n > last(was.Until, last(c.now, was.Acked)+x.Lead) || n < was.Until {
					t.Fatalf("%+v: %+v becomes %+v", c, was, a.Lease)
				}
				if r.Intn(2) == 0 {
					a.Lease.Acked = last(a.Lease.Acked, a.Pot)
				}
				c.t.Set(a.Lease)
			}
			c.now += r.Intn(20)
		}
	}
}
