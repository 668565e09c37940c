package server_test

import (
	"fmt"
	"slices"
	"testing"

	"lessor/api"
	"lessor/fsm"
)

// P21.4

// helloOf is a Hello that tells of a state.
func helloOf(xid, state int) api.Message {
	return api.Message{Kind: api.Hello, Xid: xid, State: state}
}

// kinds is the kinds of messages, as text.
func kinds(l []api.Message) string {
	text := ""
	for _, m := range l {
		text += map[int]string{api.Hello: "h", api.Update: "u", api.Ack: "a", api.All: "l", api.Done: "d"}[m.Kind]
	}
	return text
}

// For what is no moment, nothing is done at all.
func TestTickMoments(t *testing.T) {
	for _, now := range noMoments {
		for state := api.Startup; state <= api.RecoverDone; state++ {
			r := in(t, site(0), state, mixed()...)
			r.loose()
			r.still("Tick", func() { r.sent("Tick", r.tick(now)) })
			r.up(api.Startup, 101)
			r.loose()
			r.still("Tick", func() { r.sent("Tick", r.tick(now)) })
			// The numbers of hellos are not used up, either.
			xid := 1
			if state == api.Interrupted || state == api.ResInterrupted || state == api.RecoverDone {
				xid = 2
			}
			if l := ofKind(r.tick(102), api.Hello); len(l) != 1 || l[0].Xid != xid {
				t.Fatalf("in %d: %+v", state, l)
			}
		}
	}
	for _, now := range []int{0, lastTime} {
		r := in(t, site(0), api.Startup)
		r.sent("Tick", r.tick(now), helloOf(1, api.Startup))
	}
}

// What is sent, at each kind of moment.
func TestTickSends(t *testing.T) {
	for state := api.Startup; state <= api.RecoverDone; state++ {
		for now := 100; now < 106; now++ {
			r := in(t, site(1), state, mixed()...)
			if got := kinds(r.tick(now)); got != "h" {
				t.Fatalf("in %d, not up at %d: %q", state, now, got)
			}
			for _, full := range []bool{false, true} {
				for _, owes := range []bool{false, true} {
					r := in(t, site(1), state, mixed()...)
					// In no state does a Tick lead anywhere when the other server is recovering.
					r.up(api.Recover, 100)
					if owes {
						r.say(api.Message{Kind: api.All}, 100)
					}
					if !full {
						r.empty(100)
					}
					want := ""
					if now%2 == 0 {
						want += "h"
					}
					if state == api.Recover && now%3 == 0 {
						want += "l"
					}
					if !full && owes {
						want += "d"
					}
					if full {
						want += "uuuuuuu"
					}
					l := r.staying(now)
					if got := kinds(l); got != want {
						t.Fatalf("in %d at %d: %q, and not %q", state, now, got, want)
					}
					for _, m := range l {
						if m.Kind == api.Hello && m.State != state {
							t.Fatalf("in %d at %d: %+v", state, now, m)
						}
					}
					// A Done is sent once; an update again only after 3 ticks.
					if got := kinds(r.staying(now)); got != want[:len(want)-len(after(want))] {
						t.Fatalf("in %d at %d, again: %q behind %q", state, now, got, want)
					}
				}
			}
		}
	}
}

// after is what text has behind hellos and Alls.
func after(text string) string {
	for len(text) > 0 && (text[0] == 'h' || text[0] == 'l') {
		text = text[1:]
	}
	return text
}

// A Done that is owed waits for the box to be empty, and for the contact to be up.
func TestTickDone(t *testing.T) {
	r := in(t, site(1), api.PartnerDown, mixed()...)
	r.up(api.Recover, 101)
	r.say(api.Message{Kind: api.All}, 101)
	r.say(api.Message{Kind: api.All}, 101)
	if got := kinds(r.tick(101)); got != "uuuuuuu" {
		t.Fatalf("%q, %s", got, r.view())
	}
	// For each one that is acknowledged, another one waited.
	for xid := 1; xid <= 7; xid++ {
		r.say(ack(xid, true), 101)
		if got := kinds(r.tick(101)); got != "u" {
			t.Fatalf("after %d: %q, %s", xid, got, r.view())
		}
	}
	for xid := 8; xid <= 14; xid++ {
		if got := kinds(r.tick(102)); xid > 8 && got != "h" {
			t.Fatalf("before %d: %q, %s", xid, got, r.view())
		}
		r.say(ack(xid, true), 102)
	}
	// The contact is lost, and the Done remains owed; it is up again, and all is told
	// again before it.
	r.tick(108)
	if r.s.Contact().Up() {
		t.Fatal(r.view())
	}
	if got := kinds(r.tick(109)); got != "h" {
		t.Fatalf("not up: %q", got)
	}
	r.hello(api.Recover, 109)
	if got := kinds(r.tick(109)); got != "uuuuuuu" {
		t.Fatalf("up again: %q", got)
	}
	r.empty(110)
	if got := kinds(r.tick(111)); got != "d" {
		t.Fatalf("empty: %q", got)
	}
	if got := kinds(r.tick(113)); got != "" {
		t.Fatalf("owing nothing: %q", got)
	}
	if got := kinds(r.tick(114)); got != "h" {
		t.Fatalf("owing nothing: %q", got)
	}
	// Another All is answered by another Done.
	r.say(api.Message{Kind: api.All}, 114)
	r.empty(114)
	if got := kinds(r.tick(115)); got != "d" {
		t.Fatalf("once more: %q", got)
	}
}

// Six ticks of silence end the contact, and that counts as Lost.
func TestTickLost(t *testing.T) {
	for state := api.Startup; state <= api.RecoverDone; state++ {
		r := in(t, site(0), state, mixed()...)
		r.quiet(api.Startup, 101)
		r.say(api.Message{Kind: api.Done}, 102) // in Recover, this leads on
		now, state := 102, r.s.State()
		r.staying(now + 5)
		if !r.s.Contact().Up() {
			t.Fatalf("in %d: %s", state, r.view())
		}
		before := r.d.Read()
		l := r.tick(now + 6)
		want := fsm.Next(state, api.Lost, api.Startup)
		if r.s.Contact().Up() || r.s.State() != want || len(l) != 1 || l[0].Kind != api.Hello || l[0].State != want {
			t.Fatalf("in %d: %+v, %s", state, l, r.view())
		}
		if want != state {
			r.added("Tick", before, stateRecord(want))
		}
		r.still("lost already", func() { r.staying(now + 12) })
	}
	// After an error of the disk, the server remains in its state: it is lost once.
	for fail := range 2 {
		r := in(t, site(0), api.Normal)
		r.quiet(api.Normal, 101)
		r.d.Fail(fail)
		r.sent("Tick", r.tick(107))
		r.d.Fail(-1)
		if r.s.State() != api.Normal || r.s.Contact().Up() {
			t.Fatalf("after %d changes: %s", fail, r.view())
		}
		r.sent("Tick", r.tick(108), helloOf(1, api.Normal))
		if r.s.State() != api.Normal || !r.synced() {
			t.Fatalf("after %d changes: %s", fail, r.view())
		}
	}
}

// RecoverWait ends when Lead and Guard are past since it began.
func TestTickWaited(t *testing.T) {
	for _, c := range []struct{ lead, guard int }{{10, 4}, {0, 0}, {0, 3}, {7, 0}, {1 << 30, 1 << 30}} {
		x := site(1)
		x.Lead, x.Guard = c.lead, c.guard
		// The contact does not matter.
		for _, up := range []bool{false, true} {
			r := rigOf(t, x, newDisk(t, 10000), 100)
			r.hello(api.PartnerDown, 100)
			r.say(api.Message{Kind: api.Done}, 100)
			end := 100 + c.lead + c.guard
			if up {
				r.hello(api.Normal, end)
			} else {
				r.renew(api.Normal, end)
			}
			before := r.d.Read()
			r.staying(end)
			if r.s.State() != api.RecoverWait {
				t.Fatalf("%+v: %s", c, r.view())
			}
			l := r.tick(end + 1)
			if r.s.State() != api.RecoverDone {
				t.Fatalf("%+v: %s", c, r.view())
			}
			r.added("Tick", before, stateRecord(api.RecoverDone))
			if m := ofKind(l, api.Hello); !up && (len(m) != 1 || m[0].State != api.RecoverDone) {
				t.Fatalf("%+v: %+v", c, l)
			}
			r.staying(end + 2)
		}
	}
	// In no other state does time lead anywhere.
	for state := api.Startup; state <= api.RecoverDone; state++ {
		if state != api.RecoverWait {
			r := in(t, site(1), state)
			r.staying(1000)
		}
	}
	// With an error of the disk, it ends later.
	for fail := range 2 {
		r := in(t, site(1), api.RecoverWait)
		r.d.Fail(fail)
		r.sent("Tick", r.tick(115))
		r.d.Fail(-1)
		if r.s.State() != api.RecoverWait {
			t.Fatalf("after %d changes: %s", fail, r.view())
		}
		r.tick(116)
		if r.s.State() != api.RecoverDone {
			t.Fatalf("after %d changes, and again: %s", fail, r.view())
		}
	}
}

// When all is told in PartnerDown or Conflict, that counts as Synced.
func TestTickSynced(t *testing.T) {
	for state := api.Startup; state <= api.RecoverDone; state++ {
		for other := api.Startup; other <= api.RecoverDone; other++ {
			for _, full := range []bool{false, true} {
				r := in(t, site(1), state, mixed()...)
				r.up(other, 101)
				if !full {
					r.empty(101)
				}
				want := state
				if !full && (state == api.PartnerDown || state == api.Conflict) {
					want = fsm.Next(state, api.Synced, other)
				}
				before := r.d.Read()
				l := r.tick(102)
				if r.s.State() != want || len(l) == 0 || l[0] != helloOf(l[0].Xid, want) {
					t.Fatalf("in %d, the other one in %d, %t: %+v, %s", state, other, full, l, r.view())
				}
				if want != state {
					r.added("Tick", before, stateRecord(want))
				} else if !slices.Equal(before, r.d.Read()) {
					t.Fatalf("in %d, the other one in %d, %t: %s", state, other, full, r.view())
				}
			}
			// Not up, it does not.
			r := in(t, site(1), state, mixed()...)
			r.renew(other, 101)
			r.staying(102)
		}
	}
}

// All steps of a Tick, one after another: the contact is lost, and the state is
// that of RecoverWait's end; or all is told, and then the maintenance begins.
func TestTickInOrder(t *testing.T) {
	r := in(t, site(0), api.RecoverWait)
	r.quiet(api.Normal, 109)
	r.sent("Tick", r.tick(115), helloOf(1, api.RecoverDone))

	x := site(0)
	x.Slack = 0.1
	r = in(t, x, api.Conflict)
	r.quiet(api.Conflict, 101)
	l := r.tick(102)
	if r.s.State() != api.Normal || kinds(l) != "huuuu" || l[0].State != api.Normal || r.s.Store().Table().Count(api.Backup) != 4 {
		t.Fatalf("%+v, %s", l, r.view())
	}
	// A Done that is owed waits for what the maintenance tells.
	r = in(t, x, api.Normal)
	r.quiet(api.Normal, 101)
	r.say(api.Message{Kind: api.All}, 101)
	if l := r.tick(103); kinds(l) != "uuuu" {
		t.Fatalf("%+v, %s", l, r.view())
	}
	r.empty(103)
	// What is lost in Normal is not maintained.
	r = in(t, x, api.Normal)
	r.quiet(api.Normal, 101)
	if l := r.tick(107); kinds(l) != "h" || r.s.State() != api.Interrupted || r.s.Waits() != 0 {
		t.Fatalf("%+v, %s", l, r.view())
	}
}

// With an error of the last Sync, nothing is returned, and nothing is used up.
func TestTickOnDisksThatFail(t *testing.T) {
	for state := api.Startup; state <= api.RecoverDone; state++ {
		r := in(t, site(1), state, mixed()...)
		r.up(api.Recover, 101)
		r.say(api.Message{Kind: api.All}, 101)
		r.d.Fail(0)
		r.still("Tick", func() { r.sent("Tick", r.tick(102)) })
		r.d.Fail(1)
		l := r.staying(102)
		r.d.Fail(-1)
		if kinds(l) != "huuuuuuu" && state != api.Recover || state == api.Recover && kinds(l) != "hluuuuuuu" {
			t.Fatalf("in %d: %+v", state, l)
		}
		want := 1
		if state == api.Interrupted || state == api.ResInterrupted || state == api.RecoverDone {
			want = 2 // one was sent before
		}
		if l[0].Xid != want {
			t.Fatalf("in %d: %+v", state, l)
		}
		r.empty(103)
		r.d.Fail(0)
		r.sent("Tick", r.tick(103))
		r.d.Fail(-1)
		if l := r.staying(103); kinds(l) != "d" {
			t.Fatalf("in %d: %+v", state, l)
		}
	}
	// Whatever was not durable is, after a Tick.
	r := in(t, site(0), api.Startup)
	r.loose()
	r.sent("Tick", r.tick(101), helloOf(1, api.Startup))
	if !r.synced() {
		t.Fatal(r.view())
	}
}

// lapse is a lease, and what becomes of it at a moment.
type lapse struct {
	l    api.Lease
	now  int
	want api.Lease
	told bool
}

// lapses is a lease of each Bind, before and after it is over by more than the
// Guard, which is 4.
func lapses() []lapse {
	active, released := held(22, api.Active, "a", 140, 155, 130, 90, 1), held(22, api.Released, "a", 140, 155, 130, 90, 1)
	expired := held(22, api.Expired, "a", 140, 155, 130, 90, 1)
	told := held(22, api.Active, "a", 130, 155, 140, 90, 1)
	later := expired
	later.Until, later.Told = 130, 140
	backup, free, abandoned := bare(22, api.Backup, 3), bare(22, api.Free, 3), bare(22, api.Abandoned, 3)
	return []lapse{
		{active, 139, active, false}, {active, 140, active, false}, {active, 144, active, false},
		{active, 145, expired, true}, {active, 1000, expired, true}, {active, lastTime, expired, true},
		{told, 144, told, false}, {told, 145, later, true},
		{released, 120, released, true}, {released, 144, released, true},
		{released, 145, expired, true}, {released, 1000, expired, true},
		{expired, 120, expired, true}, {expired, 144, expired, true}, {expired, 145, expired, true}, {expired, 1000, expired, true},
		{backup, 1000, backup, false}, {free, 1000, free, false}, {abandoned, 1000, abandoned, false},
	}
}

// maintained is a server in Normal, that hears the other one at now, with one lease,
// and nothing in the box.
func maintained(t *testing.T, x api.Site, now int, l ...api.Lease) *rig {
	t.Helper()
	r := in(t, x, api.Normal, l...)
	r.quiet(api.Normal, now)
	return r
}

func TestTickExpires(t *testing.T) {
	for _, c := range lapses() {
		r := maintained(t, site(0), c.now, c.l)
		before := r.d.Read()
		l := ofKind(r.tick(c.now), api.Update)
		if got := r.lease(22); got != c.want {
			t.Fatalf("%+v at %d: %+v, and not %+v", c.l, c.now, got, c.want)
		}
		if c.want != c.l {
			r.added("Tick", before, leaseRecord(c.want))
		} else {
			r.added("Tick", before)
		}
		if !c.told {
			r.sent("Tick", l)
			continue
		}
		if len(l) != 1 || l[0].Xid == 0 {
			t.Fatalf("%+v at %d: %+v", c.l, c.now, l)
		}
		want := api.Message{Kind: api.Update, Xid: l[0].Xid, Addr: 22, Bind: c.want.Bind, Client: "a", At: 90}
		r.sent("Tick", l, want)
		// It is told again only after 3 ticks, since it is in the box.
		r.still("again", func() { r.sent("Tick", ofKind(r.tick(min(c.now+1, lastTime)), api.Update)) })
	}
	// The server 1 lets nothing expire.
	for _, c := range lapses() {
		r := maintained(t, site(1), c.now, c.l)
		r.still("Tick", func() { r.sent("Tick", ofKind(r.tick(c.now), api.Update)) })
	}
	// Nor does the server 0 in other states, or while the contact is not up.
	for state := api.Startup; state <= api.RecoverDone; state++ {
		for _, c := range lapses() {
			r := in(t, site(0), state, c.l)
			before := r.lease(22)
			if state != api.Normal {
				r.quiet(api.Startup, c.now)
			}
			r.sent("Tick", ofKind(r.tick(c.now), api.Update))
			if r.lease(22) != before || r.s.Waits() != 0 {
				t.Fatalf("in %d, %+v at %d: %s", state, c.l, c.now, r.view())
			}
		}
	}
}

// What is in the box is left alone.
func TestTickLeavesWhatIsBusy(t *testing.T) {
	for _, c := range lapses() {
		if c.now == lastTime || c.l.Bind == api.Free {
			continue
		}
		r := in(t, site(0), api.Normal, c.l, held(23, api.Active, "b", 10, 0, 0, 5, 1))
		r.up(api.Normal, c.now)
		r.say(ack(4, false), c.now) // of 23
		if r.s.Waits() != 1 {
			t.Fatal(r.view())
		}
		l := ofKind(r.tick(c.now), api.Update)
		if len(l) != 2 || l[0].Addr != 22 || l[0].Bind != c.l.Bind || r.lease(22) != c.l {
			t.Fatalf("%+v at %d: %+v, %s", c.l, c.now, l, r.view())
		}
		if l[1].Addr != 23 || l[1].Bind != api.Expired || r.lease(23).Bind != api.Expired {
			t.Fatalf("%+v at %d: %+v, %s", c.l, c.now, l, r.view())
		}
	}
}

// What is over becomes Free in three steps: it expires, that is acknowledged, and
// that it is Free is, too.
func TestTickFrees(t *testing.T) {
	r := maintained(t, site(0), 101, mixed()...)
	first := ofKind(r.tick(102), api.Update)
	r.sent("Tick", first,
		api.Message{Kind: api.Update, Xid: 15, Addr: 22, Bind: api.Expired, Client: "a", At: 40},
		api.Message{Kind: api.Update, Xid: 16, Addr: 23, Bind: api.Expired, Client: "b", At: 41},
		api.Message{Kind: api.Update, Xid: 17, Addr: 24, Bind: api.Expired, Client: "a", At: 20},
		api.Message{Kind: api.Update, Xid: 18, Addr: 25, Bind: api.Expired, Client: "b", At: 21})
	if r.lease(22) != held(22, api.Expired, "a", 60, 55, 58, 40, 1) || r.lease(25) != held(25, api.Expired, "b", 33, 20, 31, 21, 5) {
		t.Fatal(r.view())
	}
	// What the other server refuses is told again.
	r.say(ack(15, true), 103)
	r.say(ack(16, false), 103)
	r.sent("Tick", ofKind(r.tick(103), api.Update),
		api.Message{Kind: api.Update, Xid: 19, Addr: 22, Bind: api.Free, At: 2},
		api.Message{Kind: api.Update, Xid: 20, Addr: 23, Bind: api.Expired, Client: "b", At: 41})
	if r.lease(22) != bare(22, api.Free, 2) {
		t.Fatal(r.view())
	}
	r.say(ack(19, true), 104)
	r.say(ack(20, true), 104)
	r.sent("Tick", ofKind(r.tick(104), api.Update), api.Message{Kind: api.Update, Xid: 21, Addr: 23, Bind: api.Free, At: 3})
}

// sharing is the site of the server id, which gives half of the addresses that
// nobody has to the other server.
func sharing(id int) api.Site {
	x := site(id)
	x.Slack = 0.1
	return x
}

// eight is leases of the whole pool, with these Binds, and Ver 1 to 8.
func eight(binds ...int) []api.Lease {
	var l []api.Lease
	for i, bind := range binds {
		l = append(l, bare(api.Addr(20+i), bind, i+1))
	}
	return l
}

func TestTickShares(t *testing.T) {
	const f, b = api.Free, api.Backup
	for i, c := range []struct {
		id    int
		binds []int
		given []api.Addr
	}{
		{0, []int{f, f, f, f, f, f, f, f}, []api.Addr{24, 25, 26, 27}},
		{1, []int{f, f, f, f, f, f, f, f}, nil},
		{0, []int{b, b, b, b, b, b, b, b}, nil},
		{1, []int{b, b, b, b, b, b, b, b}, []api.Addr{24, 25, 26, 27}},
		{0, []int{f, b, f, b, f, b, f, f}, []api.Addr{27}},
		{1, []int{f, b, f, b, f, b, f, f}, nil},
		{0, []int{b, f, b, f, b, f, b, b}, nil},
		{1, []int{b, f, b, f, b, f, b, b}, []api.Addr{27}},
		{0, []int{f, b, f, b, f, b, f, b}, nil},
		{1, []int{f, b, f, b, f, b, f, b}, nil},
		{0, []int{f, f, api.Abandoned, b, f, b, f, b}, nil}, // 4 and 3 are even enough
		{0, []int{f, f, api.Abandoned, api.Abandoned, f, b, f, b}, []api.Addr{26}},
		{0, []int{5, 5, 5, 5, 5, 5, 5, f}, nil}, // half of one is none
		{1, []int{5, 5, 5, 5, 5, 5, 5, b}, []api.Addr{27}},
	} {
		r := maintained(t, sharing(c.id), 101, eight(c.binds...)...)
		before := r.d.Read()
		bind := api.Backup - c.id
		var records []string
		var want []api.Message
		all := eight(c.binds...)
		for n, a := range c.given {
			l := bare(a, bind, int(a)-20+2)
			records = append(records, leaseRecord(l))
			want = append(want, api.Message{Kind: api.Update, Xid: 17 + n, Addr: a, Bind: bind, At: l.Ver})
			all[a-20] = l
		}
		r.sent(fmt.Sprintf("%d: Tick", i), ofKind(r.tick(102), api.Update), want...)
		r.added("Tick", before, records...)
		if !slices.Equal(r.s.Store().Table().All(), all) || r.s.Waits() != len(c.given) {
			t.Fatalf("%d: %s", i, r.view())
		}
		// With something in the box, nothing is given; afterwards, it is even.
		r.still("Tick", func() { r.tick(103) })
		r.empty(104)
		r.still("Tick", func() { r.sent("Tick", ofKind(r.tick(104), api.Update)) })
	}
}

// While anything is in the box, nothing is given away, be it told by the same Tick.
func TestTickSharesWhenEmpty(t *testing.T) {
	for id := range 2 {
		binds := []int{id, id, id, id, id, id, id, id}
		r := in(t, sharing(id), api.Normal, eight(binds...)...)
		r.up(api.Normal, 101)
		for n := 9; n < 17; n++ {
			r.still("Tick", func() { r.tick(101) })
			r.say(ack(n, true), 101)
		}
		r.tick(101)
		if r.s.Waits() != 4 || r.s.Store().Table().Count(1-id) != 4 {
			t.Fatal(r.view())
		}
	}
	// What has expired is told first.
	r := maintained(t, sharing(0), 101, held(20, api.Active, "a", 10, 0, 0, 5, 1))
	if l := ofKind(r.tick(102), api.Update); len(l) != 1 || l[0].Bind != api.Expired || r.s.Waits() != 1 {
		t.Fatalf("%+v, %s", l, r.view())
	}
	// In other states, and while the contact is not up, nothing is given.
	for id := range 2 {
		binds := []int{id, id, id, id, id, id, id, id}
		for state := api.Startup; state <= api.RecoverDone; state++ {
			r := in(t, sharing(id), state, eight(binds...)...)
			if state != api.Normal {
				r.quiet(api.Startup, 101)
			}
			r.tick(102)
			if r.s.Waits() != 0 || r.s.Store().Table().Count(1-id) != 0 {
				t.Fatalf("in %d: %s", state, r.view())
			}
		}
	}
}

// A Ver that can't grow any more does not, and the other addresses are given all
// the same.
func TestTickSharesTheLastVer(t *testing.T) {
	l := eight(0, 0, 0, 0, 0, 0, 0, 0)
	l[5].Ver = lastTime
	l[6].Ver = lastTime - 1
	r := maintained(t, sharing(0), 101, l...)
	r.tick(102)
	if r.lease(25) != l[5] || r.lease(26) != bare(26, api.Backup, lastTime) || r.lease(24).Bind != api.Backup || r.s.Waits() != 3 {
		t.Fatal(r.view())
	}
}

// What can't be put is not told; and nothing is sent at all before all lasts.
func TestMaintenanceOnDisksThatFail(t *testing.T) {
	for fail := range 6 {
		r := maintained(t, sharing(0), 101)
		lasts := r.d.Lasts()
		r.d.Fail(fail)
		l := ofKind(r.tick(102), api.Update)
		r.d.Fail(-1)
		given := min(fail, 4)
		if r.s.Waits() != given || r.s.Store().Table().Count(api.Backup) != given {
			t.Fatalf("after %d changes: %s", fail, r.view())
		}
		if fail == 5 {
			if len(l) != 4 || !r.synced() {
				t.Fatalf("after %d changes: %+v, %s", fail, l, r.view())
			}
			continue
		}
		if len(l) != 0 || r.d.Lasts() != lasts {
			t.Fatalf("after %d changes: %+v, %s", fail, l, r.view())
		}
		// The next Tick tells of it.
		l = ofKind(r.tick(103), api.Update)
		want := given
		if given == 0 {
			want = 4
		}
		if len(l) != want || !r.synced() {
			t.Fatalf("after %d changes, and again: %+v, %s", fail, l, r.view())
		}
	}
	for fail := range 4 {
		r := maintained(t, site(0), 101, mixed()[2], mixed()[3])
		r.d.Fail(fail)
		l := ofKind(r.tick(102), api.Update)
		r.d.Fail(-1)
		if r.s.Waits() != min(fail, 2) || r.s.Store().Table().Count(api.Expired) != min(fail, 2) || (len(l) == 2) != (fail == 3) {
			t.Fatalf("after %d changes: %+v, %s", fail, l, r.view())
		}
	}
}

// With too little room, as much is done as there is room for.
func TestMaintenanceWithTooLittleRoom(t *testing.T) {
	size := len(leaseRecord(bare(24, api.Backup, 1)))
	for more := range 5*size + 1 {
		x := sharing(0)
		x.Room = len(maintained(t, x, 101).d.Read()) + more
		r := maintained(t, x, 101)
		l := ofKind(r.tick(102), api.Update)
		if want := min(more/size, 4); len(l) != want || r.s.Waits() != want || r.s.Store().Table().Count(api.Backup) != want || !r.synced() {
			t.Fatalf("with room for %d: %+v, %s", more, l, r.view())
		}
	}
}

// Where one lease can't be put, the next one may.
func TestMaintenanceGoesOn(t *testing.T) {
	long := held(22, api.Active, "a longer name", 60, 55, 58, 40, 1)
	short := held(23, api.Active, "b", 61, 150, 0, 41, 2)
	want := short
	want.Bind = api.Expired
	x := site(0)
	x.Room = len(maintained(t, x, 101, long, short).d.Read()) + len(leaseRecord(want))
	r := maintained(t, x, 101, long, short)
	l := ofKind(r.tick(102), api.Update)
	if r.lease(22) != long || r.lease(23) != want || len(l) != 1 || l[0].Addr != 23 {
		t.Fatalf("%+v, %s", l, r.view())
	}
}

// What the maintenance did is there after the next Open, in a new life, in which
// nothing waits yet.
func TestTickAndOpen(t *testing.T) {
	r := maintained(t, sharing(0), 101)
	r.tick(102)
	again := rigOf(t, r.x, r.d, 110)
	if again.s.Store().Table().Count(api.Backup) != 4 || again.s.Waits() != 0 || again.own() != r.own()+1 {
		t.Fatal(again.view())
	}
}
