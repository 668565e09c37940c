package server_test

import (
	"fmt"
	"math/rand"
	"slices"
	"testing"

	"lessor/api"
	"lessor/disk"
	"lessor/message"
	"lessor/packet"
	"lessor/server"
	"lessor/store"
)

// P21.6

// afterCrash is what is known after a crash now that loses all that it can.
func afterCrash(t *testing.T, x api.Site, d *disk.Disk) *store.Store {
	t.Helper()
	again := newDisk(t, x.Room)
	again.Append(d.Read()[:d.Lasts()])
	again.Sync()
	s, e := store.Open(again, x.Pool)
	if e != api.OK {
		t.Fatalf("store.Open: %d", e)
	}
	return s
}

// survives tells whether a crash now would lose nothing of what the server knows.
func survives(t *testing.T, x api.Site, d *disk.Disk, s *server.Server) bool {
	t.Helper()
	after, now := afterCrash(t, x, d), s.Store()
	return after.State() == now.State() && after.Life() == now.Life() && slices.Equal(after.Table().All(), now.Table().All())
}

// Where the disk does not fail, nothing is lost after any call; where it does,
// nothing that was answered.
func TestNothingAnsweredIsLost(t *testing.T) {
	r := rand.New(rand.NewSource(5))
	answers, silent := 0, 0
	for i := range 200 {
		x := anySite(r)
		fails := i%2 == 1
		if !fails {
			x.Room = 100000
		}
		u := &run{r: r, x: x, now: r.Intn(50), life: 1}
		d := newDisk(t, x.Room)
		s, e := server.Open(x, d, u.now)
		if e != api.OK || !survives(t, x, d, s) {
			t.Fatalf("Open(%+v): %d", x, e)
		}
		count := 0
		for range 120 {
			if fails && r.Intn(10) == 0 {
				d.Fail(r.Intn(4) - 1)
			}
			one := u.deed(s.Store().Life(), count)
			out, _ := one.do(s)
			count = numbers(count, out)
			said := len(out) > 0 && len(out[0]) > 0
			if said {
				answers++
			} else {
				silent++
			}
			if (said || !fails) && !survives(t, x, d, s) {
				t.Fatalf("%+v: %s is answered by %v, and a crash would lose something", x, one.name, out)
			}
			// What the server is in was durable when it began.
			if kept := afterCrash(t, x, d); said && kept.Life() < s.Store().Life() {
				t.Fatalf("%+v: %s: of the life %d, only %d lasts", x, one.name, s.Store().Life(), kept.Life())
			}
			for _, b := range out {
				checkAnswered(t, x, d, b, u.now)
			}
		}
	}
	if answers < 3000 || silent < 3000 {
		t.Errorf("only %d answers, and %d calls without one", answers, silent)
	}
}

// checkAnswered fails unless what b promises, or acknowledges, would be found after
// a crash.
func checkAnswered(t *testing.T, x api.Site, d *disk.Disk, b []byte, now int) {
	t.Helper()
	p, e := packet.Decode(b)
	if e != api.OK || packet.Kind(p) != api.AckKind || p.Yi == 0 {
		return
	}
	l, e := afterCrash(t, x, d).Table().Get(p.Yi)
	span := int(p.Options[2].Data[0])<<24 | int(p.Options[2].Data[1])<<16 | int(p.Options[2].Data[2])<<8 | int(p.Options[2].Data[3])
	if e != api.OK || l.Bind != api.Active || l.Until < min(now, l.At)+span {
		t.Fatalf("%+v is promised for %d at %d, and %+v recorded", p.Yi, span, now, l)
	}
}

// An update that was acknowledged is known after a crash.
func TestNothingAcknowledgedIsLost(t *testing.T) {
	for _, m := range updates() {
		r := in(t, site(0), api.Normal, mixed()...)
		r.quiet(api.Normal, 100)
		m.Xid = 3
		if l := r.say(m, 101); len(l) != 1 || l[0].Kind != api.Ack {
			t.Fatalf("Peer(%+v): %+v", m, l)
		}
		want := r.s.Store().Table().All()
		r.d.Crash(0)
		again := rigOf(t, r.x, r.d, 110)
		if !slices.Equal(again.s.Store().Table().All(), want) {
			t.Fatalf("Peer(%+v): %s", m, again.view())
		}
	}
}

// anyBytes is random bytes, or a packet or a message in which something is wrong.
func anyBytes(u *run) []byte {
	b := make([]byte, u.r.Intn(40))
	switch u.r.Intn(4) {
	case 0:
		b = u.packet()
	case 1:
		b = u.message(8, 9)
	case 2:
		b = make([]byte, 236+u.r.Intn(30))
		fallthrough
	default:
		for i := range b {
			b[i] = byte(u.r.Intn(7)) * byte(u.r.Intn(256))
		}
		return b
	}
	for range u.r.Intn(4) {
		b[u.r.Intn(len(b))] = byte(u.r.Intn(256))
	}
	return b[:len(b)-u.r.Intn(2)*u.r.Intn(len(b))]
}

// No bytes make a server panic; those that are not a packet, or not a message, change
// nothing but Drops.
func TestAnyBytes(t *testing.T) {
	random := rand.New(rand.NewSource(8))
	nothing, something := 0, 0
	for state := api.Startup; state <= api.RecoverDone; state++ {
		x := site(state % 2)
		r := in(t, x, state, mixed()...)
		r.up(api.Normal, 101)
		u := &run{r: random, x: x, now: 101, life: r.life, xid: r.xid}
		for range 1000 {
			if random.Intn(50) == 0 {
				r.loose()
			}
			b := anyBytes(u)
			_, e := packet.Decode(b)
			_, f := message.Decode(b)
			if e != api.OK {
				nothing++
				r.drops(fmt.Sprintf("Client(%v)", b), 1, func() { r.s.Client(b, u.now) })
			} else {
				something++
				r.s.Client(b, u.now)
			}
			if f != api.OK {
				nothing++
				r.drops(fmt.Sprintf("Peer(%v)", b), 1, func() { r.s.Peer(b, u.now) })
			} else {
				something++
				r.s.Peer(b, u.now)
			}
		}
	}
	if nothing < 3000 || something < 300 {
		t.Errorf("%d were nothing, %d something", nothing, something)
	}
}

// Whatever the moments are, and whatever the disk does, no call panics.
func TestAnyMoments(t *testing.T) {
	r := rand.New(rand.NewSource(9))
	moments := []int{-1, 0, 1, 5, lastTime - 1, lastTime, lastTime + 1}
	for range 300 {
		x := anySite(r)
		x.Lead, x.Guard = []int{0, 1, 1 << 30}[r.Intn(3)], []int{0, 1, 1 << 30}[r.Intn(3)]
		d := newDisk(t, x.Room)
		s, e := server.Open(x, d, moments[1+r.Intn(5)])
		if e != api.OK {
			t.Fatalf("Open(%+v): %d", x, e)
		}
		u := &run{r: r, x: x, life: 1}
		for range 60 {
			now := moments[r.Intn(len(moments))]
			u.now = max(now, 0)
			before := told(s)
			switch r.Intn(5) {
			case 0:
				s.Client(u.packet(), now)
			case 1:
				b := u.message(s.Store().Life(), 5)
				s.Peer(b, now)
			case 2:
				s.Tick(now)
			case 3:
				s.Order(now)
			case 4:
				d.Fail(r.Intn(6) - 3)
			}
			if (now < 0 || now > lastTime) && told(s) != before {
				t.Fatalf("%+v at %d: from %s to %s", x, now, before, told(s))
			}
		}
	}
}

// both is two servers of one pool, and what is on its way to each of them.
type both struct {
	t       *testing.T
	r       *rand.Rand
	x       [2]api.Site
	d       [2]*disk.Disk
	s       [2]*server.Server // nil while it is down
	way     [2][][]byte
	now     int
	off     [2]int  // by which the servers' clocks are off
	alone   [2]bool // was told that the other one is down, which has yet to learn all
	held    map[api.Addr][]holding
	granted int
}

// holding is that a client was told it may use an address, up to a moment.
type holding struct {
	client string
	until  int
}

// newBoth is two servers whose clocks are off by at most the Guard.
func newBoth(t *testing.T, r *rand.Rand) *both {
	t.Helper()
	w := &both{t: t, r: r, now: 100, held: map[api.Addr][]holding{}}
	for i := range w.x {
		w.x[i] = site(i)
		w.x[i].Slack, w.x[i].Room, w.x[i].First, w.x[i].Pool = 0.1, 1<<20, 128, []api.Range{{Low: 1, High: 6}}
		w.d[i] = newDisk(t, 1<<20)
		w.start(i)
	}
	return w
}

// at is the moment by the clock of the server i.
func (w *both) at(i int) int { return w.now + w.off[i] }

// start opens the server i.
func (w *both) start(i int) {
	w.t.Helper()
	s, e := server.Open(w.x[i], w.d[i], w.at(i))
	if e != api.OK {
		w.t.Fatalf("Open: %d", e)
	}
	w.s[i] = s
}

// crash lets the power of the server i fail.
func (w *both) crash(i int) {
	w.s[i] = nil
	w.d[i].Crash(w.r.Intn(100))
}

// send puts what the server i sends on its way.
func (w *both) send(i int, l [][]byte) { w.way[1-i] = append(w.way[1-i], l...) }

// deliver lets the server i hear what is on its way to it. While it is down, that is
// lost.
func (w *both) deliver(i int) {
	l := w.way[i]
	w.way[i] = nil
	for _, b := range l {
		if w.s[i] != nil {
			w.send(i, w.s[i].Peer(b, w.at(i)))
		}
	}
}

// tick lets time pass for both.
func (w *both) tick() {
	w.now++
	for i, s := range w.s {
		if s != nil {
			w.send(i, s.Tick(w.at(i)))
		}
	}
	for i := range w.s {
		w.deliver(i)
	}
	if w.s[0] != nil && w.s[1] != nil && w.s[0].State() == api.Normal && w.s[1].State() == api.Normal {
		w.alone = [2]bool{}
	}
}

// order tells the server i that the other one is down. Only who knows that it is may
// say so, and that it did not go on alone before.
func (w *both) order(i int) bool {
	if w.s[i] == nil || w.s[1-i] != nil || w.alone[1-i] || w.s[i].Order(w.at(i)) != api.OK {
		return false
	}
	w.alone[i] = true
	return true
}

// ask lets a client ask the server i, and fails if it is promised what another
// client holds.
func (w *both) ask(i int, p api.Packet) api.Addr {
	w.t.Helper()
	if w.s[i] == nil {
		return 0
	}
	client := packet.Client(p)
	if packet.Kind(p) == api.Release {
		// Whatever the server does, its client uses the address no more.
		w.held[p.Ci] = slices.DeleteFunc(w.held[p.Ci], func(h holding) bool { return h.client == client })
	}
	b, _ := packet.Encode(p)
	out, is := w.s[i].Client(b, w.at(i))
	reply, _ := packet.Decode(out)
	if !is || packet.Kind(reply) != api.AckKind || reply.Yi == 0 {
		return 0
	}
	for _, h := range w.held[reply.Yi] {
		if h.client != client && h.until >= w.now {
			w.t.Fatalf("at %d, %d promises %d to %s, and %s holds it up to %d", w.now, i, reply.Yi, client, h.client, h.until)
		}
	}
	w.granted++
	span := reply.Options[2].Data
	w.held[reply.Yi] = append(w.held[reply.Yi], holding{client: client, until: w.now + int(span[2])<<8 + int(span[3])})
	return reply.Yi
}

// Without failures, both servers are soon Normal, share the addresses, and know the
// same.
func TestTwoServers(t *testing.T) {
	w := newBoth(t, rand.New(rand.NewSource(1)))
	for range 8 {
		w.tick()
	}
	same := func(what string) {
		t.Helper()
		for i, s := range w.s {
			if s.State() != api.Normal || s.Waits() != 0 || s.Drops() != 0 {
				t.Fatalf("%s: %d: %s", what, i, told(s))
			}
		}
		for _, l := range w.s[0].Store().Table().All() {
			m, _ := w.s[1].Store().Table().Get(l.Addr)
			if l.Bind != m.Bind || l.Client != m.Client || l.Ver != m.Ver {
				t.Fatalf("%s: one knows %+v, the other one %+v", what, l, m)
			}
		}
	}
	same("soon")
	if n := w.s[0].Store().Table().Count(api.Backup); n != 3 {
		t.Fatalf("%d of 6 are Backup", n)
	}
	if a, b := w.ask(0, request("a", 1)), w.ask(1, request("b", 6)); a != 1 || b != 6 {
		t.Fatalf("%d and %d are promised", a, b)
	}
	for range 8 {
		w.tick()
	}
	same("after two promises")
	for i, s := range w.s {
		for a, name := range map[api.Addr]string{1: "a", 6: "b"} {
			if l, _ := s.Store().Table().Get(a); l.Bind != api.Active || l.Client != name {
				t.Fatalf("%d: %+v", i, l)
			}
		}
	}
	// What was given back, or is over, is nobody's in the end.
	w.ask(1, release("b", 6))
	for range 60 {
		w.tick()
	}
	same("after all that")
	t0 := w.s[0].Store().Table()
	if t0.Count(api.Free) != 3 || t0.Count(api.Backup) != 3 {
		t.Fatalf("%+v", t0.All())
	}
}

// One server is down, the other one is told so, and continues alone; when the first
// one is back, it learns all that was promised, and both go on.
func TestOneIsDown(t *testing.T) {
	for down := range 2 {
		w := newBoth(t, rand.New(rand.NewSource(1)))
		for range 8 {
			w.tick()
		}
		up := 1 - down
		a := w.ask(down, request("a", api.Addr(1+5*down)))
		w.tick()
		w.tick()
		w.crash(down)
		for range 7 {
			w.tick()
		}
		if e := w.s[up].Order(w.at(up)); e != api.OK || a == 0 {
			t.Fatalf("Order: %d", e)
		}
		if got := w.ask(up, request("a", a)); got != a {
			t.Fatalf("its own address is not prolonged: %d", got)
		}
		for range 80 {
			w.tick()
		}
		if got := w.ask(up, request("z", a)); got != a {
			t.Fatalf("what is over is not promised: %d", got)
		}
		w.start(down)
		seen := map[int]bool{}
		for range 60 {
			w.tick()
			seen[w.s[down].State()] = true
		}
		for _, state := range []int{api.Recover, api.RecoverWait, api.RecoverDone, api.Normal} {
			if !seen[state] {
				t.Fatalf("it was never in %d", state)
			}
		}
		if w.s[up].State() != api.Normal || w.s[down].State() != api.Normal {
			t.Fatalf("%s\n%s", told(w.s[0]), told(w.s[1]))
		}
	}
}

// Whatever a crash loses, no address is promised to two clients at the same moment.
// No other message is lost here, and no disk fails: an update that is sent again, and
// comes late, may bring back a lease that has ended, as the chapters have it.
func TestNoAddressTwice(t *testing.T) {
	r := rand.New(rand.NewSource(3))
	granted, orders := 0, 0
	for range 400 {
		w := newBoth(t, r)
		w.off[r.Intn(2)] = r.Intn(5)
		for range 300 {
			w.tick()
			i := r.Intn(2)
			client, a := []string{"a", "b", "c", "d", "e"}[r.Intn(5)], api.Addr(1+r.Intn(6))
			switch r.Intn(12) {
			case 0:
				w.ask(i, release(client, a))
			case 1:
				if w.s[i] != nil && r.Intn(8) == 0 {
					w.crash(i)
				}
			case 2:
				if w.s[i] == nil {
					w.start(i)
				}
			case 3:
				if w.order(i) {
					orders++
				}
			default:
				w.ask(i, request(client, a))
			}
		}
		granted += w.granted
	}
	if granted < 10000 || orders < 200 {
		t.Errorf("only %d promises, and %d orders", granted, orders)
	}
}
