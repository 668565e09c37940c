package server_test

import (
	"fmt"
	"reflect"
	"slices"
	"testing"

	"lessor/api"
	"lessor/engine"
	"lessor/message"
	"lessor/packet"
)

// P21.2

// four is n as 4 bytes.
func four(n int) []byte { return []byte(number(n, 4)) }

// says is the packet of a kind of a client, with more options.
func says(kind int, client string, more ...api.Option) api.Packet {
	l := []api.Option{{Code: 53, Data: []byte{byte(kind)}}, {Code: 61, Data: []byte(client)}}
	return api.Packet{Op: 1, Xid: 77, Hw: []byte{1, 2, 3}, Options: append(l, more...)}
}

func discover(client string) api.Packet { return says(api.Discover, client) }

func request(client string, a api.Addr) api.Packet {
	return says(api.Request, client, api.Option{Code: 50, Data: four(int(a))})
}

func decline(client string, a api.Addr) api.Packet {
	return says(api.Decline, client, api.Option{Code: 50, Data: four(int(a))})
}

func release(client string, a api.Addr) api.Packet {
	p := says(api.Release, client)
	p.Ci = a
	return p
}

// pleas is packets of all kinds: what promises, what changes, what only sends, and
// what does neither, for the leases of mixed.
func pleas() []api.Packet {
	l := []api.Packet{says(api.Inform, "a"), says(0, "a"), says(9, "a"), says(api.Offer, "a"), says(api.Nak, "a")}
	for _, client := range []string{"a", "b", "z"} {
		l = append(l, discover(client))
		for a := api.Addr(19); a <= 28; a++ {
			l = append(l, request(client, a), decline(client, a), release(client, a))
			chosen := request(client, a)
			chosen.Options = append(chosen.Options, api.Option{Code: 54, Data: four(9)})
			l = append(l, chosen)
		}
	}
	other := request("a", 22)
	other.Options = append(other.Options, api.Option{Code: 54, Data: four(8)})
	op := request("a", 22)
	op.Op = 2
	return append(l, other, op)
}

// updateOf is what the other server is to be told of l, by the chapter's words.
func updateOf(l api.Lease, pot int) api.Message {
	m := api.Message{Kind: 2, Addr: l.Addr, Bind: l.Bind, Client: l.Client}
	if l.Bind == 2 {
		m.Pot = pot
	}
	if l.Bind == 0 || l.Bind == 1 || l.Bind == 5 {
		m.At = l.Ver
	} else {
		m.At = l.At
	}
	return m
}

// waiting is the updates that the server sends by itself.
func (r *rig) waiting(now int) []api.Message {
	r.t.Helper()
	var l []api.Message
	for _, m := range r.tick(now) {
		if m.Kind == api.Update {
			l = append(l, m)
		}
	}
	return l
}

func TestClient(t *testing.T) {
	changes, replies, both := 0, 0, 0
	for id := range 2 {
		for state := api.Startup; state <= api.RecoverDone; state++ {
			for _, p := range pleas() {
				r := in(t, site(id), state, mixed()...)
				r.quiet(api.Recover, 100)
				a := r.checkClient(p, 100, 101)
				switch {
				case a.Change && a.Send:
					both++
				case a.Change:
					changes++
				case a.Send:
					replies++
				}
			}
		}
	}
	if changes == 0 || replies == 0 || both == 0 {
		t.Fatalf("%d change, %d send, %d do both", changes, replies, both)
	}
}

// checkClient holds the answer of a server that has nothing in the box, in a state
// since entry, against the engine's, which it returns.
func (r *rig) checkClient(p api.Packet, entry, now int) api.Answer {
	r.t.Helper()
	table := r.s.Store().Table()
	a := engine.Answer(r.x, table, r.s.State(), now, entry, p)
	before := known(r.s)
	bytes := r.d.Read()
	r.loose()
	loose := r.d.Read()
	reply, is := r.client(p, now)
	if is != a.Send || is && !reflect.DeepEqual(plain(reply), plain(a.Reply)) {
		r.t.Fatalf("Client(%+v): %+v, %t, and not %+v", p, reply, is, a)
	}
	if r.s.Drops() != 0 {
		r.t.Fatalf("Client(%+v): %d are dropped", p, r.s.Drops())
	}
	if !a.Change {
		if known(r.s) != before || !slices.Equal(r.d.Read(), loose) || r.synced() != a.Send {
			r.t.Fatalf("Client(%+v): %s", p, r.view())
		}
		return a
	}
	if got := r.lease(a.Lease.Addr); got != a.Lease || r.s.Waits() != 1 {
		r.t.Fatalf("Client(%+v): %+v, and not %+v; %s", p, got, a.Lease, r.view())
	}
	r.added("Client", bytes, stateRecord(r.s.Store().State()), leaseRecord(a.Lease))
	for _, m := range r.waiting(now) {
		if m.Addr == a.Lease.Addr {
			want := updateOf(a.Lease, a.Pot)
			want.Xid = m.Xid
			r.sent("Tick", []api.Message{m}, want)
			return a
		}
	}
	r.t.Fatalf("Client(%+v): its update is not sent", p)
	return a
}

// plain is p with an empty list in place of none.
func plain(p api.Packet) api.Packet {
	if p.Options == nil {
		p.Options = []api.Option{}
	}
	return p
}

// What is promised, word by word.
func TestClientPromises(t *testing.T) {
	r := in(t, site(1), api.Normal, mixed()...)
	r.quiet(api.Normal, 100)
	before := r.d.Read()
	p, is := r.client(request("z", 21), 101)
	want := api.Packet{Op: 2, Xid: 77, Yi: 21, Si: 9, Hw: []byte{1, 2, 3}, Options: []api.Option{
		{Code: 53, Data: []byte{5}}, {Code: 54, Data: four(9)}, {Code: 51, Data: four(10)}, {Code: 58, Data: four(5)}, {Code: 59, Data: four(8)},
	}}
	if !is || !reflect.DeepEqual(p, want) {
		t.Fatalf("%+v, %t, and not %+v", p, is, want)
	}
	l := held(21, api.Active, "z", 111, 0, 0, 101, 3)
	if r.lease(21) != l || r.s.Waits() != 1 {
		t.Fatal(r.view())
	}
	r.added("Client", before, leaseRecord(l))
	// All seven leases were told twice before.
	r.sent("Tick", r.waiting(102), api.Message{Kind: api.Update, Xid: 15, Addr: 21, Bind: api.Active, Client: "z", Pot: 121, At: 101})
}

// What a client gives back is recorded, and told, but not answered.
func TestClientGivesBack(t *testing.T) {
	r := in(t, site(1), api.Interrupted, mixed()...)
	before := r.d.Read()
	if p, is := r.client(release("a", 22), 101); is {
		t.Fatalf("%+v", p)
	}
	released := held(22, api.Released, "a", 60, 55, 58, 101, 1)
	if r.lease(22) != released || r.s.Waits() != 1 {
		t.Fatal(r.view())
	}
	r.added("Client", before, leaseRecord(released))
	if p, is := r.client(decline("b", 23), 102); is {
		t.Fatalf("%+v", p)
	}
	abandoned := bare(23, api.Abandoned, 2)
	if r.lease(23) != abandoned || r.s.Waits() != 2 {
		t.Fatal(r.view())
	}
	r.added("Client", before, leaseRecord(released), leaseRecord(abandoned))
}

// Until an update is acknowledged, a later one of its address waits.
func TestClientTwice(t *testing.T) {
	r := in(t, site(0), api.Normal)
	r.quiet(api.Normal, 100)
	r.client(request("z", 20), 101)
	r.client(request("z", 20), 103)
	r.client(release("z", 20), 104)
	r.client(request("y", 21), 104)
	if r.s.Waits() != 2 {
		t.Fatal(r.view())
	}
	r.sent("Tick", r.waiting(105),
		api.Message{Kind: api.Update, Xid: 1, Addr: 20, Bind: api.Active, Client: "z", Pot: 121, At: 101},
		api.Message{Kind: api.Update, Xid: 2, Addr: 21, Bind: api.Active, Client: "y", Pot: 124, At: 104})
	r.say(api.Message{Kind: api.Ack, Xid: 1}, 105)
	r.sent("Tick", r.waiting(106), api.Message{Kind: api.Update, Xid: 3, Addr: 20, Bind: api.Released, Client: "z", At: 104})
}

// Only in a state that serves is anything sent or changed; and nothing is dropped.
func TestClientInEachState(t *testing.T) {
	for state := api.Startup; state <= api.RecoverDone; state++ {
		r := in(t, site(0), state, mixed()...)
		serves := state == api.Normal || state == api.Interrupted || state == api.PartnerDown
		if _, is := r.client(says(api.Inform, "a"), 101); is != serves {
			t.Fatalf("in %d: %t", state, is)
		}
		if serves {
			continue
		}
		for _, p := range pleas() {
			r.still("Client", func() { r.client(p, 101) })
		}
	}
}

// noPackets is bytes that are no packet.
func noPackets(t *testing.T) [][]byte {
	t.Helper()
	good, _ := packet.Encode(request("a", 22))
	hello, _ := message.Encode(api.Message{Kind: api.Hello, Life: 1, Xid: 1})
	wrong := func(place int, b byte) []byte {
		l := slices.Clone(good)
		l[place] = b
		return l
	}
	return [][]byte{
		nil, {}, {0}, {1}, {255}, hello, good[:239], good[:240], good[:len(good)-1], good[1:], make([]byte, 300),
		wrong(0, 0), wrong(0, 3), wrong(1, 2), wrong(2, 0), wrong(2, 17), wrong(3, 1), wrong(100, 1), wrong(236, 98),
	}
}

func TestClientDrops(t *testing.T) {
	for state := api.Startup; state <= api.RecoverDone; state++ {
		r := in(t, site(0), state, mixed()...)
		r.loose()
		for _, b := range noPackets(t) {
			r.drops(fmt.Sprintf("Client(%v)", b), 1, func() {
				before := slices.Clone(b)
				out, is := r.s.Client(b, 101)
				if is || len(out) != 0 || !slices.Equal(b, before) {
					t.Fatalf("Client(%v): %v, %t", b, out, is)
				}
			})
		}
		// A packet that is answered by nothing is none of these.
		r.still("Client", func() {
			p := request("a", 22)
			p.Op = 2
			r.client(p, 101)
			r.client(says(api.Offer, "a"), 101)
		})
	}
}

// For what is no moment, nothing is done at all.
func TestClientMoments(t *testing.T) {
	for _, now := range noMoments {
		for _, state := range []int{api.Startup, api.Normal, api.Interrupted, api.PartnerDown} {
			r := in(t, site(0), state, mixed()...)
			r.loose()
			r.still("Client", func() {
				for _, p := range pleas() {
					if reply, is := r.client(p, now); is {
						t.Fatalf("Client(%+v, %d): %+v", p, now, reply)
					}
				}
				for _, b := range noPackets(t) {
					if reply, is := r.s.Client(b, now); is || len(reply) != 0 {
						t.Fatalf("Client(%v, %d): %v", b, now, reply)
					}
				}
			})
		}
	}
	for _, now := range []int{0, lastTime} {
		r := in(t, site(0), api.Interrupted, mixed()...)
		if _, is := r.client(says(api.Inform, "a"), now); !is {
			t.Fatalf("Inform at %d", now)
		}
		if _, is := r.client(release("a", 22), now); is || r.lease(22).At != now || r.lease(22).Bind != api.Released {
			t.Fatalf("Release at %d: %s", now, r.view())
		}
		r.s.Client([]byte{1}, now)
		if r.s.Drops() != 1 {
			t.Fatalf("at %d, %d are dropped", now, r.s.Drops())
		}
	}
	// At the last moment, no time is left to promise.
	r := in(t, site(0), api.Interrupted, mixed()...)
	if p, is := r.client(request("z", 20), lastTime); is && p.Yi != 0 {
		t.Fatalf("%+v", p)
	}
	if p, is := r.client(request("z", 20), lastTime-1); !is || p.Yi != 20 || r.lease(20).Until != lastTime {
		t.Fatalf("%+v, %t", p, is)
	}
}

// With an error of the disk, nothing is sent. What was put remains, to be told once
// it is durable.
func TestClientOnDisksThatFail(t *testing.T) {
	for _, p := range []api.Packet{request("z", 21), release("a", 22), decline("b", 23)} {
		for fail := range 3 {
			r := in(t, site(1), api.Normal, mixed()...)
			r.quiet(api.Normal, 100)
			before, lasts := r.view(), r.d.Lasts()
			a := engine.Answer(r.x, r.s.Store().Table(), api.Normal, 101, 100, p)
			r.d.Fail(fail)
			_, is := r.client(p, 101)
			switch fail {
			case 0:
				if is || r.view() != before {
					t.Fatalf("Client(%+v): %t, %s", p, is, r.view())
				}
				continue
			case 1:
				if is || r.d.Lasts() != lasts {
					t.Fatalf("Client(%+v): %t, %s", p, is, r.view())
				}
			case 2:
				if is != a.Send || !r.synced() {
					t.Fatalf("Client(%+v): %t, %s", p, is, r.view())
				}
			}
			if r.lease(a.Lease.Addr) != a.Lease || r.s.Waits() != 1 {
				t.Fatalf("Client(%+v): %s", p, r.view())
			}
			r.d.Fail(0)
			r.sent("Tick", r.tick(103))
			r.d.Fail(-1)
			want := updateOf(a.Lease, a.Pot)
			want.Xid = 15
			r.sent("Tick", r.waiting(103), want)
			if !r.synced() {
				t.Fatalf("Client(%+v): %s", p, r.view())
			}
		}
	}
	// What changes nothing is sent only if all is durable, too.
	for _, p := range []api.Packet{discover("z"), discover("a"), request("z", 22), says(api.Inform, "a")} {
		r := in(t, site(0), api.Normal, mixed()...)
		r.d.Fail(0)
		r.still("Client", func() {
			if reply, is := r.client(p, 101); is {
				t.Fatalf("Client(%+v): %+v", p, reply)
			}
		})
		r.d.Fail(1)
		if _, is := r.client(p, 101); !is {
			t.Fatalf("Client(%+v): nothing", p)
		}
		r.d.Fail(0)
		if r.s.Drops() != 0 {
			t.Fatalf("Client(%+v): %d are dropped", p, r.s.Drops())
		}
	}
}

func TestClientWithTooLittleRoom(t *testing.T) {
	size := len(leaseRecord(held(20, api.Active, "z", 111, 0, 0, 101, 0)))
	for more := range size + 2 {
		x := site(0)
		x.Room = len(in(t, x, api.Normal, mixed()...).d.Read()) + more
		r := in(t, x, api.Normal, mixed()...)
		if more >= size {
			if p, is := r.client(request("z", 20), 101); !is || p.Yi != 20 {
				t.Fatalf("with room for %d: %+v, %t", more, p, is)
			}
			continue
		}
		r.still("Client", func() {
			if p, is := r.client(request("z", 20), 101); is {
				t.Fatalf("with room for %d: %+v", more, p)
			}
			if p, is := r.client(release("a", 22), 101); is {
				t.Fatalf("with room for %d: %+v", more, p)
			}
		})
		// What changes nothing takes no room.
		if p, is := r.client(discover("z"), 101); !is || p.Yi != 20 {
			t.Fatalf("with room for %d: %+v, %t", more, p, is)
		}
	}
}
