package server_test

import (
	"fmt"
	"slices"
	"testing"

	"lessor/api"
	"lessor/fsm"
	"lessor/message"
	"lessor/packet"
	"lessor/resolve"
)

// P21.3

// ack is the answer to the update with this number.
func ack(xid int, ok bool) api.Message { return api.Message{Kind: api.Ack, Xid: xid, Ok: ok} }

// noMessages is bytes that are no message.
func noMessages(t *testing.T) [][]byte {
	t.Helper()
	good, _ := message.Encode(api.Message{Kind: api.Update, Life: 2, Seen: 8, Xid: 5, Addr: 20, Bind: api.Active, Client: "z"})
	p, _ := packet.Encode(discover("z"))
	wrong := func(place int, b byte) []byte {
		l := slices.Clone(good)
		l[place] = b
		return l
	}
	return [][]byte{
		nil, {}, {0}, {1}, {255}, p, good[:len(good)-1], good[1:], append(slices.Clone(good), 0), make([]byte, 14),
		wrong(0, 0), wrong(0, 6), wrong(0, 1), wrong(1, 255), wrong(5, 255), wrong(9, 255), wrong(17, 6), wrong(18, 255), wrong(30, 33),
	}
}

func TestPeerDropsBytes(t *testing.T) {
	for state := api.Startup; state <= api.RecoverDone; state++ {
		r := in(t, site(0), state, mixed()...)
		r.up(api.Normal, 101)
		r.loose()
		for _, b := range noMessages(t) {
			r.drops(fmt.Sprintf("Peer(%v)", b), 1, func() {
				before := slices.Clone(b)
				if out := r.s.Peer(b, 102); len(out) != 0 || !slices.Equal(b, before) {
					t.Fatalf("Peer(%v): %v", b, out)
				}
			})
		}
	}
}

// messages is one of each kind but Hello, that would do something if it was
// accepted.
func messages() []api.Message {
	return []api.Message{
		{Kind: api.Update, Xid: 50, Addr: 20, Bind: api.Abandoned},
		{Kind: api.Update, Xid: 51, Addr: 5, Bind: api.Free},
		ack(1, true), {Kind: api.All}, {Kind: api.Done},
	}
}

// What contact.Take does not accept is dropped.
func TestPeerDropsMessages(t *testing.T) {
	for state := api.Startup; state <= api.RecoverDone; state++ {
		r := in(t, site(0), state, mixed()...)
		r.loose()
		dropped := func(what string, m api.Message) {
			t.Helper()
			r.drops(fmt.Sprintf("in %d, %s: %+v", state, what, m), 1, func() { r.sent(what, r.raw(m, 101)) })
		}
		for _, m := range messages() {
			m.Life, m.Seen = max(r.life, 1), r.own()
			dropped("not up", m)
		}
		r.quiet(api.Normal, 101)
		r.up(api.Normal, 101) // which it is already
		r.loose()
		for _, m := range messages() {
			m.Life, m.Seen = r.life+1, r.own()
			dropped("of a life to come", m)
			m.Life, m.Seen = r.life, r.own()-1
			dropped("to a former life", m)
			m.Seen = r.own() + 1
			dropped("to a life to come", m)
			m.Seen = 0
			dropped("to no life", m)
		}
		again := api.Message{Kind: api.Hello, Life: r.life, Seen: r.own(), Xid: r.xid, State: api.Conflict}
		dropped("heard twice", again)
		again.Xid--
		dropped("older", again)
		r.renew(api.Recover, 102)
		again.Xid = 1000
		dropped("of a former life", again)
	}
}

// For what is no moment, nothing is done at all.
func TestPeerMoments(t *testing.T) {
	for _, now := range noMoments {
		for state := api.Startup; state <= api.RecoverDone; state++ {
			r := in(t, site(0), state, mixed()...)
			r.up(api.Startup, 101)
			r.loose()
			r.still("Peer", func() {
				r.sent("Peer", r.hello(api.Conflict, now))
				for _, m := range messages() {
					r.sent("Peer", r.say(m, now))
				}
				for _, b := range noMessages(t) {
					if out := r.s.Peer(b, now); len(out) != 0 {
						t.Fatalf("Peer(%v, %d): %v", b, now, out)
					}
				}
			})
		}
	}
	for _, now := range []int{0, lastTime} {
		r := in(t, site(0), api.Startup)
		r.hello(api.Normal, now)
		if r.s.State() != api.Normal || !r.s.Contact().Up() {
			t.Fatalf("Hello at %d: %s", now, r.view())
		}
		r.sent("Peer", r.say(messages()[0], now), ack(50, true))
	}
}

// A Hello that makes the contact one that is up, or is of a new life while it is,
// lets everything be sent, and sent again.
func TestPeerSendsEverything(t *testing.T) {
	for state := api.Startup; state <= api.RecoverDone; state++ {
		for id := range 2 {
			r := in(t, site(id), state, mixed()...)
			n := 1
			if state != api.Startup && state != api.PartnerDown {
				n = 8 // it was up before
			}
			r.up(api.Recover, 101)
			if r.s.Waits() != 7 {
				t.Fatalf("in %d: %s", state, r.view())
			}
			r.sent("Tick", ofKind(r.staying(101), api.Update), from(n, allOfMixed())...)
			// A further Hello lets nothing be sent again.
			r.d.Fail(0)
			r.hello(api.Recover, 101)
			r.d.Fail(-1)
			r.sent("Tick", ofKind(r.staying(102), api.Update))
			// In a new life, what is outstanding is sent again, before what waits.
			r.d.Fail(0)
			r.life++
			r.xid = 0
			r.hello(api.Recover, 102)
			r.d.Fail(-1)
			if !r.s.Contact().Up() || r.s.Waits() != 7 {
				t.Fatalf("in %d: %s", state, r.view())
			}
			r.sent("Tick", ofKind(r.staying(102), api.Update), from(n, allOfMixed())...)
			r.d.Fail(0)
			for xid := n; xid < n+7; xid++ {
				r.say(ack(xid, false), 103)
			}
			r.d.Fail(-1)
			r.sent("Tick", ofKind(r.staying(103), api.Update), from(n+7, allOfMixed())...)
		}
	}
}

// staying is what the server sends by itself, when it must not go to another state.
func (r *rig) staying(now int) []api.Message {
	r.t.Helper()
	state := r.s.State()
	l := r.tick(now)
	if r.s.State() != state {
		r.t.Fatalf("Tick(%d) goes from %d to %d", now, state, r.s.State())
	}
	return l
}

// ofKind is those of l that have this kind.
func ofKind(l []api.Message, kind int) []api.Message {
	var some []api.Message
	for _, m := range l {
		if m.Kind == kind {
			some = append(some, m)
		}
	}
	return some
}

// A Hello of a server that has not heard of this one's life sends nothing.
func TestPeerSendsNothingWhileDown(t *testing.T) {
	for state := api.Startup; state <= api.RecoverDone; state++ {
		for other := api.Startup; other <= api.RecoverDone; other++ {
			r := in(t, site(0), state, mixed()...)
			before := r.d.Read()
			r.sent("Peer", r.renew(other, 101))
			if r.s.Contact().Up() || r.s.Waits() != 0 || r.s.State() != state || !slices.Equal(before, r.d.Read()) {
				t.Fatalf("in %d, not heard by one in %d: %s", state, other, r.view())
			}
			if r.s.Contact().State() != other || r.s.Contact().Other() != r.life {
				t.Fatalf("in %d, not heard by one in %d: %s", state, other, r.view())
			}
		}
	}
}

// While the contact is not up, only a Hello can be heard; one that makes it up
// counts at once.
func TestPeerHello(t *testing.T) {
	for state := api.Startup; state <= api.RecoverDone; state++ {
		for other := api.Startup; other <= api.RecoverDone; other++ {
			for _, up := range []bool{false, true} {
				r := in(t, site(0), state, mixed()...)
				if up {
					r.quiet(api.Recover, 110)
				}
				before := r.d.Read()
				r.loose()
				loose := r.d.Read()
				r.sent("Peer", r.hello(other, 120))
				want := fsm.Next(state, api.Heard, other)
				if r.s.State() != want || !r.s.Contact().Up() || r.s.Contact().State() != other {
					t.Fatalf("in %d, hearing %d: %s", state, other, r.view())
				}
				if want != state {
					r.added("Peer", before, stateRecord(state), stateRecord(want))
				} else if !slices.Equal(loose, r.d.Read()) || r.synced() {
					t.Fatalf("in %d, hearing %d: %s", state, other, r.view())
				}
			}
		}
	}
}

// A step that is not durable is none.
func TestPeerHelloOnDisksThatFail(t *testing.T) {
	for fail := range 3 {
		r := in(t, site(0), api.Startup, mixed()...)
		before, lasts := r.d.Read(), r.d.Lasts()
		r.d.Fail(fail)
		r.sent("Peer", r.hello(api.Normal, 120))
		r.d.Fail(-1)
		if fail == 2 {
			if r.s.State() != api.Normal {
				t.Fatalf("after %d changes: %s", fail, r.view())
			}
			r.added("Peer", before, stateRecord(api.Normal))
			continue
		}
		if r.s.State() != api.Startup || r.d.Lasts() != lasts || !r.s.Contact().Up() || r.s.Drops() != 0 {
			t.Fatalf("after %d changes: %s", fail, r.view())
		}
		// The next one steps.
		r.hello(api.Normal, 121)
		if r.s.State() != api.Normal || !r.synced() {
			t.Fatalf("after %d changes, and again: %s", fail, r.view())
		}
	}
	for more := range len(stateRecord(0)) + 1 {
		x := site(0)
		x.Room = len(in(t, x, api.Startup, mixed()...).d.Read()) + more
		r := in(t, x, api.Startup, mixed()...)
		r.hello(api.Normal, 120)
		if (r.s.State() == api.Normal) != (more == len(stateRecord(0))) {
			t.Fatalf("with room for %d: %s", more, r.view())
		}
	}
}

// When a step failed, the state began when it didn't.
func TestPeerEntry(t *testing.T) {
	// RecoverWait lasts for Lead and Guard, which are 14 together.
	for _, fail := range []int{-1, 0, 1} {
		r := in(t, site(0), api.Recover)
		r.quiet(api.PartnerDown, 110)
		r.d.Fail(fail)
		r.say(api.Message{Kind: api.Done}, 110)
		r.d.Fail(-1)
		entry := 110
		if fail >= 0 {
			if r.s.State() != api.Recover {
				t.Fatal(r.view())
			}
			r.say(api.Message{Kind: api.Done}, 112)
			entry = 112
		}
		r.tick(entry + 14)
		if r.s.State() != api.RecoverWait {
			t.Fatal(r.view())
		}
		r.tick(entry + 15)
		if r.s.State() != api.RecoverDone {
			t.Fatal(r.view())
		}
	}
}

// updates is updates of each Bind, for all addresses of the pool, and others.
func updates() []api.Message {
	var l []api.Message
	for a := api.Addr(18); a <= 29; a++ {
		for bind := api.Free; bind <= api.Abandoned; bind++ {
			for _, at := range []int{0, 4, 55, 90} {
				l = append(l, api.Message{Kind: api.Update, Addr: a, Bind: bind, Client: "a", Pot: 200, At: at})
				if bind == api.Active {
					l = append(l, api.Message{Kind: api.Update, Addr: a, Bind: bind, Client: "a", Pot: 57, At: at})
				}
			}
			l = append(l, api.Message{Kind: api.Update, Addr: a, Bind: bind, Client: "b", Pot: 5, At: 90})
			l = append(l, api.Message{Kind: api.Update, Addr: a, Bind: bind})
		}
	}
	return l
}

// checkUpdate holds the reply to an update that is newer than what was noted against
// resolve's.
func (r *rig) checkUpdate(m api.Message, now int) (ok, changed bool) {
	r.t.Helper()
	before := r.d.Read()
	waits, state := r.s.Waits(), r.s.State()
	all := r.s.Store().Table().All()
	l, e := r.s.Store().Table().Get(m.Addr)
	var records []string
	if e == api.OK {
		next, is := resolve.Take(l, m, state, now, r.x.Guard)
		ok = is
		if next != l {
			records = append(records, leaseRecord(next))
			all[slices.Index(all, l)] = next
		}
	}
	r.loose()
	records = append([]string{stateRecord(r.s.Store().State())}, records...)
	r.sent(fmt.Sprintf("Peer(%+v)", m), r.say(m, now), ack(m.Xid, ok))
	r.added(fmt.Sprintf("Peer(%+v)", m), before, records...)
	if !slices.Equal(r.s.Store().Table().All(), all) || r.s.Waits() != waits || r.s.State() != state || r.s.Drops() != 0 {
		r.t.Fatalf("Peer(%+v): %s", m, r.view())
	}
	// Heard again, it has the same answer, and no further effect, but all lasts.
	r.loose()
	bytes := r.d.Read()
	r.sent(fmt.Sprintf("Peer(%+v), again", m), r.say(m, now+20), ack(m.Xid, ok))
	if !slices.Equal(bytes, r.d.Read()) || !r.synced() || !slices.Equal(r.s.Store().Table().All(), all) {
		r.t.Fatalf("Peer(%+v), again: %s", m, r.view())
	}
	// Another one with the same number is answered as the first one was.
	m.Bind, m.Client, m.Pot, m.At = api.Abandoned, "", 0, 0
	r.sent(fmt.Sprintf("Peer(%+v), again", m), r.say(m, now+20), ack(m.Xid, ok))
	if !slices.Equal(bytes, r.d.Read()) {
		r.t.Fatalf("Peer(%+v), again: %s", m, r.view())
	}
	// An older one is nothing.
	if m.Xid > 1 {
		r.loose()
		m.Xid--
		r.still("an older update", func() { r.sent("an older update", r.say(m, now+20)) })
	}
	return ok, len(records) > 1
}

func TestPeerUpdate(t *testing.T) {
	accepted, refused, changes := 0, 0, 0
	for state := api.Startup; state <= api.RecoverDone; state++ {
		for i, m := range updates() {
			r := in(t, site(i%2), state, mixed()...)
			r.quiet(api.Recover, 100)
			m.Xid = 1 + i%9
			ok, changed := r.checkUpdate(m, []int{61, 62, 100}[i%3])
			if ok {
				accepted++
			} else {
				refused++
			}
			if changed {
				changes++
			}
		}
	}
	if accepted < 100 || refused < 100 || changes < 100 {
		t.Fatalf("%d are accepted, %d refused, %d change something", accepted, refused, changes)
	}
}

// What is accepted, word by word.
func TestPeerUpdateResults(t *testing.T) {
	r := in(t, site(0), api.Normal, mixed()...)
	r.quiet(api.Normal, 100)
	for i, c := range []struct {
		m    api.Message
		ok   bool
		want api.Lease
	}{
		{api.Message{Addr: 22, Bind: api.Active, Client: "a", Pot: 90}, true, held(22, api.Active, "a", 60, 55, 90, 40, 1)},
		{api.Message{Addr: 23, Bind: api.Active, Client: "a", Pot: 90}, false, held(23, api.Active, "b", 61, 150, 0, 41, 2)},
		{api.Message{Addr: 27, Bind: api.Backup, At: 8}, true, bare(27, api.Backup, 8)},
		{api.Message{Addr: 27, Bind: api.Free, At: 7}, true, bare(27, api.Backup, 8)},
		{api.Message{Addr: 26, Bind: api.Active, Client: "a", Pot: 90}, false, bare(26, api.Abandoned, 6)},
		{api.Message{Addr: 23, Bind: api.Released, Client: "b", At: 45}, false, held(23, api.Active, "b", 61, 150, 0, 41, 2)},
		{api.Message{Addr: 23, Bind: api.Released, Client: "b", At: 46}, true, held(23, api.Released, "b", 61, 150, 0, 41, 2)},
		{api.Message{Addr: 22, Bind: api.Expired, Client: "a"}, true, held(22, api.Expired, "a", 60, 55, 90, 40, 1)},
		{api.Message{Addr: 20, Bind: api.Abandoned}, true, bare(20, api.Abandoned, 0)},
	} {
		c.m.Kind, c.m.Xid = api.Update, i+1
		r.sent("Peer", r.say(c.m, 101), ack(i+1, c.ok))
		if got := r.lease(c.m.Addr); got != c.want {
			t.Fatalf("%d: Peer(%+v): %+v, and not %+v", i, c.m, got, c.want)
		}
	}
}

// What is noted is noted of each address; a new life begins with an empty record.
func TestPeerUpdateNumbers(t *testing.T) {
	r := in(t, site(0), api.Normal)
	r.quiet(api.Normal, 100)
	to := func(a api.Addr, xid int) api.Message {
		return api.Message{Kind: api.Update, Xid: xid, Addr: a, Bind: api.Active, Client: fmt.Sprint(xid), Pot: 300}
	}
	r.sent("Peer", r.say(to(20, 1<<30), 101), ack(1<<30, true))
	r.sent("Peer", r.say(to(20, 1<<30-1), 101))
	r.sent("Peer", r.say(to(20, 1<<30), 101), ack(1<<30, true))
	r.sent("Peer", r.say(to(21, 1), 101), ack(1, true))
	r.sent("Peer", r.say(to(21, 5), 101), ack(5, false))
	r.sent("Peer", r.say(to(21, 4), 101))
	r.sent("Peer", r.say(to(21, 1), 101))
	r.sent("Peer", r.say(to(21, 5), 101), ack(5, false))
	r.sent("Peer", r.say(to(90, 3), 101), ack(3, false))
	r.sent("Peer", r.say(to(90, 2), 101))
	r.sent("Peer", r.say(to(90, 3), 101), ack(3, false))
	if r.lease(21).Client != "1" || r.lease(20).Client != fmt.Sprint(1<<30) {
		t.Fatal(r.view())
	}
	// A Hello of the same life, even after the contact was lost, forgets nothing.
	r.hello(api.Normal, 102)
	r.tick(108)
	r.hello(api.Normal, 109)
	r.sent("Peer", r.say(to(20, 1), 109))
	// One of a new life does, whether that has heard of this server or not.
	r.renew(api.Normal, 109)
	r.hello(api.Normal, 109)
	r.sent("Peer", r.say(to(22, 1), 109), ack(1, true))
	r.sent("Peer", r.say(to(20, 1), 109), ack(1, false))
	r.life++
	r.xid = 0
	r.hello(api.Normal, 110)
	r.sent("Peer", r.say(to(22, 1), 110), ack(1, true))
	r.sent("Peer", r.say(to(20, 1), 110), ack(1, false))
	r.say(api.Message{Kind: api.Update, Xid: 2, Addr: 20, Bind: api.Abandoned}, 110)
	r.life++
	r.xid = 0
	r.hello(api.Normal, 110)
	r.sent("Peer", r.say(api.Message{Kind: api.Update, Xid: 1, Addr: 20, Bind: api.Abandoned}, 110), ack(1, true))
}

// With an error of the disk, nothing is noted, and there is no reply.
func TestPeerUpdateOnDisksThatFail(t *testing.T) {
	changes := api.Message{Kind: api.Update, Xid: 5, Addr: 22, Bind: api.Active, Client: "a", Pot: 200}
	same := api.Message{Kind: api.Update, Xid: 5, Addr: 22, Bind: api.Active, Client: "a", Pot: 10}
	refused := api.Message{Kind: api.Update, Xid: 5, Addr: 22, Bind: api.Active, Client: "z", Pot: 200}
	outside := api.Message{Kind: api.Update, Xid: 5, Addr: 99, Bind: api.Active, Client: "z", Pot: 200}
	for i, m := range []api.Message{changes, same, refused, outside} {
		count := 1
		if i == 0 {
			count = 2
		}
		for fail := range count {
			r := in(t, site(0), api.Normal, mixed()...)
			r.quiet(api.Normal, 100)
			before, lasts := r.view(), r.d.Lasts()
			r.d.Fail(fail)
			r.sent("Peer", r.say(m, 101))
			r.d.Fail(-1)
			if r.d.Lasts() != lasts || r.s.Drops() != 0 || fail == 0 && r.view() != before {
				t.Fatalf("Peer(%+v) after %d changes: %s", m, fail, r.view())
			}
			if fail == 1 && r.lease(22).Told != 200 {
				t.Fatalf("Peer(%+v) after %d changes: %s", m, fail, r.view())
			}
			// Nothing was noted: an older one is new.
			older := m
			older.Xid = 4
			r.sent("Peer", r.say(older, 101), ack(4, i < 2))
			r.sent("Peer", r.say(m, 101), ack(5, i < 2))
			// What was noted is answered only if all lasts.
			r.d.Fail(0)
			r.still("Peer", func() { r.sent("Peer", r.say(m, 101)) })
			r.d.Fail(-1)
			r.sent("Peer", r.say(m, 101), ack(5, i < 2))
		}
	}
}

func TestPeerUpdateWithTooLittleRoom(t *testing.T) {
	m := api.Message{Kind: api.Update, Xid: 5, Addr: 27, Bind: api.Active, Client: "zz", Pot: 200}
	l := held(27, api.Active, "zz", 0, 0, 200, 0, 7)
	size := len(leaseRecord(l))
	for more := range size + 2 {
		x := site(0)
		rigged := in(t, x, api.Normal, mixed()...)
		rigged.quiet(api.Normal, 100)
		x.Room = len(rigged.d.Read()) + more
		r := in(t, x, api.Normal, mixed()...)
		r.quiet(api.Normal, 100)
		if more >= size {
			r.sent("Peer", r.say(m, 101), ack(5, true))
			if r.lease(27) != l {
				t.Fatalf("with room for %d: %s", more, r.view())
			}
			continue
		}
		r.still("Peer", func() { r.sent("Peer", r.say(m, 101)) })
		// Nothing was noted, and what needs no room is answered.
		m := m
		m.Xid, m.Bind, m.Client, m.Pot, m.At = 4, api.Free, "", 0, 7
		r.sent("Peer", r.say(m, 101), ack(4, true))
	}
}

func TestPeerAck(t *testing.T) {
	removed, freed := 0, 0
	for id := range 2 {
		for state := api.Startup; state <= api.RecoverDone; state++ {
			for place := range allOfMixed() {
				for _, ok := range []bool{false, true} {
					r := in(t, site(id), state, mixed()...)
					r.up(api.Recover, 100)
					n := 1
					if state != api.Startup && state != api.PartnerDown {
						n = 8
					}
					m := from(n, allOfMixed())[place]
					freed += r.checkAck(m, ok)
					removed++
				}
			}
		}
	}
	if removed == 0 || freed == 0 {
		t.Fatalf("%d were in the box, %d became Free", removed, freed)
	}
}

// checkAck holds what follows upon the answer to m, which is the only message in the
// box of its address, against resolve's. It returns how many leases are Free then
// that were not.
func (r *rig) checkAck(m api.Message, ok bool) int {
	r.t.Helper()
	before, waits, all := r.d.Read(), r.s.Waits(), r.s.Store().Table().All()
	l := r.lease(m.Addr)
	next := resolve.Acked(l, m, ok, r.x.Id == 0)
	all[slices.Index(all, l)] = next
	state := r.s.State()
	r.loose()
	loose := r.d.Read()
	r.sent("Peer", r.say(ack(m.Xid, ok), 101))
	freed := 0
	if next != l && next.Bind == api.Free {
		freed = 1
	}
	if !slices.Equal(r.s.Store().Table().All(), all) || r.s.State() != state || r.s.Drops() != 0 || r.s.Waits() != waits-1+freed {
		r.t.Fatalf("after %+v, %t for %+v: %s", l, ok, m, r.view())
	}
	if next == l {
		if !slices.Equal(loose, r.d.Read()) || r.synced() {
			r.t.Fatalf("after %+v, %t for %+v: %s", l, ok, m, r.view())
		}
	} else {
		r.added("Peer", before, stateRecord(r.s.Store().State()), leaseRecord(next))
	}
	// A second one is for nothing that is in the box.
	r.loose()
	r.still("a second Ack", func() { r.sent("Peer", r.say(ack(m.Xid, !ok), 101)) })
	if freed == 1 {
		last := api.Message{}
		for _, m := range ofKind(r.tick(102), api.Update) {
			last = m
		}
		want := updateOf(next, 0)
		want.Xid = last.Xid
		r.sent("Tick", []api.Message{last}, want)
	}
	return freed
}

// What is acknowledged, word by word.
func TestPeerAckResults(t *testing.T) {
	// For the server 0, what is over becomes Free; that is told, too, and then
	// nothing more.
	r := in(t, site(0), api.Interrupted, mixed()...)
	r.up(api.Recover, 101)
	r.say(ack(8+3, true), 101)
	r.say(ack(8+4, true), 101)
	if r.lease(24) != bare(24, api.Free, 5) || r.lease(25) != bare(25, api.Free, 6) || r.s.Waits() != 7 {
		t.Fatal(r.view())
	}
	r.tick(101)
	r.say(ack(15, true), 102)
	r.say(ack(16, false), 102)
	if r.lease(24) != bare(24, api.Free, 5) || r.lease(25) != bare(25, api.Free, 6) || r.s.Waits() != 5 {
		t.Fatal(r.view())
	}
	// The other one leaves it as it is.
	r = in(t, site(1), api.Interrupted, mixed()...)
	r.up(api.Recover, 101)
	r.say(ack(8+3, true), 101)
	r.say(ack(8+4, true), 101)
	if !slices.Equal(r.s.Store().Table().All(), mixed()) || r.s.Waits() != 5 {
		t.Fatal(r.view())
	}
	// What is Active is known by the other server up to the time it was told.
	r = in(t, site(1), api.Interrupted, mixed()...)
	r.up(api.Recover, 101)
	r.say(ack(8+1, true), 101)
	r.say(ack(8+2, false), 101)
	if r.lease(22) != held(22, api.Active, "a", 60, 60, 58, 40, 1) || r.lease(23) != mixed()[3] {
		t.Fatal(r.view())
	}
	// What a client gave back in the meantime is not what is acknowledged.
	r = in(t, site(0), api.Interrupted, mixed()...)
	r.up(api.Recover, 101)
	r.client(release("a", 22), 101)
	l := r.lease(22)
	r.say(ack(8+1, true), 101)
	if r.lease(22) != l || l.Bind != api.Released || r.s.Waits() != 7 {
		t.Fatal(r.view())
	}
	r.say(ack(15, true), 101)
	if r.lease(22) != bare(22, api.Free, 2) || r.s.Waits() != 7 {
		t.Fatal(r.view())
	}
}

// An Ack of what is not in the box changes nothing.
func TestPeerAckOfNothing(t *testing.T) {
	for id := range 2 {
		r := in(t, site(id), api.Interrupted, mixed()...)
		r.up(api.Recover, 101)
		r.loose()
		r.still("Ack", func() {
			for _, xid := range []int{1, 7, 15, 1 << 30} {
				r.sent("Peer", r.say(ack(xid, true), 101))
				r.sent("Peer", r.say(ack(xid, false), 101))
			}
		})
	}
}

// With an error of the disk, nothing is told of what became Free.
func TestPeerAckOnDisksThatFail(t *testing.T) {
	for fail := range 3 {
		r := in(t, site(0), api.Interrupted, mixed()...)
		r.up(api.Recover, 101)
		lasts := r.d.Lasts()
		r.d.Fail(fail)
		r.sent("Peer", r.say(ack(11, true), 101))
		r.d.Fail(-1)
		waits, want := 6, bare(24, api.Free, 5)
		if fail == 0 {
			want = mixed()[4]
		}
		if fail == 2 {
			waits = 7
		}
		if r.s.Waits() != waits || r.lease(24) != want || (r.d.Lasts() == lasts) != (fail < 2) {
			t.Fatalf("after %d changes: %s", fail, r.view())
		}
	}
	size := len(leaseRecord(bare(24, api.Free, 5)))
	for more := range size + 1 {
		x := site(0)
		rigged := in(t, x, api.Interrupted, mixed()...)
		rigged.up(api.Recover, 101)
		x.Room = len(rigged.d.Read()) + more
		r := in(t, x, api.Interrupted, mixed()...)
		r.up(api.Recover, 101)
		r.say(ack(11, true), 101)
		if more < size && (r.s.Waits() != 6 || r.lease(24) != mixed()[4]) || more == size && (r.s.Waits() != 7 || r.lease(24).Bind != api.Free) {
			t.Fatalf("with room for %d: %s", more, r.view())
		}
	}
}

// All lets everything be sent, and then a Done, once.
func TestPeerAll(t *testing.T) {
	for state := api.Startup; state <= api.RecoverDone; state++ {
		r := in(t, site(1), state, mixed()...)
		r.quiet(api.Recover, 100)
		bytes := r.d.Read()
		r.loose()
		loose := r.d.Read()
		r.sent("Peer", r.say(api.Message{Kind: api.All}, 101))
		if r.s.Waits() != 7 || r.s.State() != state || !slices.Equal(loose, r.d.Read()) || r.synced() {
			t.Fatalf("in %d: %s", state, r.view())
		}
		n := 8
		if state != api.Startup && state != api.PartnerDown {
			n = 15
		}
		r.sent("Tick", ofKind(r.tick(101), api.Update), from(n, allOfMixed())...)
		r.added("Tick", bytes, stateRecord(r.s.Store().State()))
	}
}

// Done ends Recover, and nothing else.
func TestPeerDone(t *testing.T) {
	for state := api.Startup; state <= api.RecoverDone; state++ {
		for other := api.Startup; other <= api.RecoverDone; other++ {
			r := in(t, site(0), state, mixed()...)
			r.quiet(other, 100)
			before := r.d.Read()
			if state != api.Recover {
				r.loose()
				r.still("Done", func() { r.sent("Peer", r.say(api.Message{Kind: api.Done}, 101)) })
				continue
			}
			r.sent("Peer", r.say(api.Message{Kind: api.Done}, 101))
			if r.s.State() != api.RecoverWait {
				t.Fatalf("in %d, the other one in %d: %s", state, other, r.view())
			}
			r.added("Peer", before, stateRecord(api.RecoverWait))
			r.still("a second Done", func() { r.say(api.Message{Kind: api.Done}, 102) })
		}
	}
}
