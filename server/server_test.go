package server_test

import (
	"bytes"
	"fmt"
	"math"
	"reflect"
	"slices"
	"strings"
	"testing"

	"lessor/api"
	"lessor/disk"
	"lessor/message"
	"lessor/packet"
	"lessor/server"
	"lessor/store"
)

// The last moment, and the last life. They are written as numbers here, as the
// document has them.
const (
	lastTime = 1 << 40
	lastLife = 1 << 29
)

// noMoments is numbers that are no moments.
var noMoments = []int{-1, lastTime + 1, math.MinInt, math.MaxInt}

// site is a valid site of the server id, which answers all clients, and gives no
// addresses to the other server.
func site(id int) api.Site {
	return api.Site{
		Id: id, Lead: 10, Guard: 4, Server: 9, Want: 20, Most: 60, First: 256 * (1 - id),
		Part: 0.5, Slack: math.NaN(), Renew: 0.5, Rebind: 0.875,
		Pool: []api.Range{{Low: 20, High: 27}}, Room: 10000,
	}
}

// bare is a lease that nobody has.
func bare(a api.Addr, bind, ver int) api.Lease { return api.Lease{Addr: a, Bind: bind, Ver: ver} }

// held is a lease that a client has, or had.
func held(a api.Addr, bind int, client string, until, acked, told, at, ver int) api.Lease {
	return api.Lease{Addr: a, Bind: bind, Client: client, Until: until, Acked: acked, Told: told, At: at, Ver: ver}
}

// mixed is leases of the whole pool of site, with each Bind.
func mixed() []api.Lease {
	return []api.Lease{
		bare(20, api.Free, 0),
		bare(21, api.Backup, 3),
		held(22, api.Active, "a", 60, 55, 58, 40, 1),
		held(23, api.Active, "b", 61, 150, 0, 41, 2),
		held(24, api.Expired, "a", 30, 300, 35, 20, 4),
		held(25, api.Released, "b", 33, 20, 31, 21, 5),
		bare(26, api.Abandoned, 6),
		bare(27, api.Free, 7),
	}
}

// allOfMixed is what the other server is told of all those leases.
func allOfMixed() []api.Message {
	return []api.Message{
		{Kind: api.Update, Xid: 1, Addr: 21, Bind: api.Backup, At: 3},
		{Kind: api.Update, Xid: 2, Addr: 22, Bind: api.Active, Client: "a", Pot: 60, At: 40},
		{Kind: api.Update, Xid: 3, Addr: 23, Bind: api.Active, Client: "b", Pot: 150, At: 41},
		{Kind: api.Update, Xid: 4, Addr: 24, Bind: api.Expired, Client: "a", At: 20},
		{Kind: api.Update, Xid: 5, Addr: 25, Bind: api.Released, Client: "b", At: 21},
		{Kind: api.Update, Xid: 6, Addr: 26, Bind: api.Abandoned, At: 6},
		{Kind: api.Update, Xid: 7, Addr: 27, Bind: api.Free, At: 7},
	}
}

// from is l with numbers from n on as Xid.
func from(n int, l []api.Message) []api.Message {
	for i := range l {
		l[i].Xid = n + i
	}
	return l
}

// newDisk is an empty disk.
func newDisk(t *testing.T, room int) *disk.Disk {
	t.Helper()
	d, e := disk.New(room)
	if e != api.OK {
		t.Fatalf("disk.New(%d): %d", room, e)
	}
	return d
}

// stored is a disk on which a state, a life and leases are durable.
func stored(t *testing.T, x api.Site, state, life int, l ...api.Lease) *disk.Disk {
	t.Helper()
	d := newDisk(t, x.Room)
	s, e := store.Open(d, x.Pool)
	if e != api.OK {
		t.Fatalf("store.Open: %d", e)
	}
	errors := []api.Errno{s.SetState(state), s.SetLife(life)}
	for _, one := range l {
		errors = append(errors, s.Put(one))
	}
	errors = append(errors, s.Sync())
	for _, e := range errors {
		if e != api.OK {
			t.Fatalf("stored(%d, %d, %+v): %d", state, life, l, errors)
		}
	}
	return d
}

// rig is a server on its disk, and what the other server, which the test plays, has
// said of itself.
type rig struct {
	t    *testing.T
	x    api.Site
	d    *disk.Disk
	s    *server.Server
	life int // the other server's
	xid  int // of its last Hello
}

// rigOf is a server that is opened on a disk.
func rigOf(t *testing.T, x api.Site, d *disk.Disk, now int) *rig {
	t.Helper()
	s, e := server.Open(x, d, now)
	if e != api.OK || s == nil {
		t.Fatalf("Open(%+v, %d): %v, %d", x, now, s, e)
	}
	return &rig{t: t, x: x, d: d, s: s, life: 1}
}

// own is the server's own life.
func (r *rig) own() int { return r.s.Store().Life() }

// say is what is sent in reply to m, as the other server sends it now, having heard
// of the server's life.
func (r *rig) say(m api.Message, now int) []api.Message {
	r.t.Helper()
	m.Life, m.Seen = r.life, r.own()
	return r.raw(m, now)
}

// raw is what is sent in reply to m, as it is.
func (r *rig) raw(m api.Message, now int) []api.Message {
	r.t.Helper()
	b, e := message.Encode(m)
	if e != api.OK {
		r.t.Fatalf("Encode(%+v): %d", m, e)
	}
	before := slices.Clone(b)
	out := r.s.Peer(b, now)
	if !bytes.Equal(b, before) {
		r.t.Fatalf("Peer changes its argument from %v to %v", before, b)
	}
	l := r.decoded(out)
	scribble(b)
	scribble(out...)
	return l
}

// hello is what is sent in reply to the next Hello in this state.
func (r *rig) hello(state, now int) []api.Message {
	r.t.Helper()
	r.xid++
	return r.say(api.Message{Kind: api.Hello, Xid: r.xid, State: state}, now)
}

// renew begins a new life of the other server, which has not heard of the server
// yet, and says so.
func (r *rig) renew(state, now int) []api.Message {
	r.t.Helper()
	r.life++
	r.xid = 1
	return r.raw(api.Message{Kind: api.Hello, Life: r.life, Xid: 1, State: state}, now)
}

// tick is what the server sends by itself.
func (r *rig) tick(now int) []api.Message {
	r.t.Helper()
	out := r.s.Tick(now)
	l := r.decoded(out)
	scribble(out...)
	return l
}

// client is the packet that is sent for p.
func (r *rig) client(p api.Packet, now int) (api.Packet, bool) {
	r.t.Helper()
	b, e := packet.Encode(p)
	if e != api.OK {
		r.t.Fatalf("Encode(%+v): %d", p, e)
	}
	before := slices.Clone(b)
	out, is := r.s.Client(b, now)
	if !bytes.Equal(b, before) {
		r.t.Fatalf("Client changes its argument from %v to %v", before, b)
	}
	if !is {
		if len(out) != 0 {
			r.t.Fatalf("Client(%+v, %d): %v beside false", p, now, out)
		}
		return api.Packet{}, false
	}
	reply, e := packet.Decode(out)
	again, _ := packet.Encode(reply)
	if e != api.OK || !bytes.Equal(again, out) {
		r.t.Fatalf("Client(%+v, %d): %v is no packet's encoding", p, now, out)
	}
	scribble(b, out)
	return reply, true
}

// decoded is messages that are marked as sent in the server's life, to the one that
// it knows. What this returns has no marks.
func (r *rig) decoded(out [][]byte) []api.Message {
	r.t.Helper()
	var l []api.Message
	for _, b := range out {
		m, e := message.Decode(b)
		if e != api.OK {
			r.t.Fatalf("%v is no message", b)
		}
		if m.Life != r.own() || m.Seen != r.s.Contact().Other() {
			r.t.Fatalf("%+v is sent in the life %d to the life %d", m, r.own(), r.s.Contact().Other())
		}
		m.Life, m.Seen = 0, 0
		l = append(l, m)
	}
	return l
}

// scribble overwrites bytes: nothing else may share them.
func scribble(lists ...[]byte) {
	for _, b := range lists {
		for i := range b {
			b[i] ^= 0xff
		}
	}
}

// empty lets the other server refuse all that is in the box, which changes nothing
// else.
func (r *rig) empty(now int) {
	r.t.Helper()
	for xid := 1; r.s.Waits() > 0 && xid < 1000; xid++ {
		r.say(api.Message{Kind: api.Ack, Xid: xid}, now)
	}
	if r.s.Waits() != 0 {
		r.t.Fatalf("%d still wait", r.s.Waits())
	}
}

// up lets the two servers hear each other, the other one in this state, while the
// server can't go to another state; all leases are in the box then.
func (r *rig) up(other, now int) {
	r.t.Helper()
	state := r.s.State()
	r.d.Fail(0)
	r.hello(other, now)
	r.d.Fail(-1)
	if !r.s.Contact().Up() || r.s.State() != state || r.s.Contact().State() != other {
		r.t.Fatalf("up(%d, %d): %s", other, now, r.view())
	}
}

// quiet is up with nothing in the box.
func (r *rig) quiet(other, now int) {
	r.t.Helper()
	r.up(other, now)
	r.empty(now)
}

// lease is the lease of an address.
func (r *rig) lease(a api.Addr) api.Lease {
	r.t.Helper()
	l, e := r.s.Store().Table().Get(a)
	if e != api.OK {
		r.t.Fatalf("Get(%d): %d", a, e)
	}
	return l
}

// loose appends a record that is not durable, and that changes nothing.
func (r *rig) loose() {
	r.t.Helper()
	if e := r.s.Store().SetState(r.s.Store().State()); e != api.OK || r.synced() {
		r.t.Fatalf("SetState: %d", e)
	}
}

// synced tells whether all that the disk has is durable.
func (r *rig) synced() bool { return r.d.Lasts() == len(r.d.Read()) }

// known is all that a server tells of itself, beside its disk and its Drops.
func known(s *server.Server) string {
	var b strings.Builder
	fmt.Fprintf(&b, "state %d, waits %d\n", s.State(), s.Waits())
	fmt.Fprintf(&b, "contact %t, of life %d in state %d\n", s.Contact().Up(), s.Contact().Other(), s.Contact().State())
	fmt.Fprintf(&b, "stored state %d, life %d\n", s.Store().State(), s.Store().Life())
	for _, l := range s.Store().Table().All() {
		fmt.Fprintf(&b, "%+v\n", l)
	}
	return b.String()
}

// view is all that the server and its disk tell, beside its Drops.
func (r *rig) view() string {
	return known(r.s) + fmt.Sprintf("disk %v, of which %d last", r.d.Read(), r.d.Lasts())
}

// still fails unless do leaves the server and its disk as they are.
func (r *rig) still(what string, do func()) {
	r.t.Helper()
	r.drops(what, 0, do)
}

// drops is still, where so many inputs are dropped, and counted.
func (r *rig) drops(what string, count int, do func()) {
	r.t.Helper()
	before, dropped := r.view(), r.s.Drops()
	do()
	if after := r.view(); after != before {
		r.t.Fatalf("%s: from\n%s\nto\n%s", what, before, after)
	}
	if got := r.s.Drops() - dropped; got != count {
		r.t.Fatalf("%s: %d are dropped, and not %d", what, got, count)
	}
}

// sent fails unless got is what is to be sent.
func (r *rig) sent(what string, got []api.Message, want ...api.Message) {
	r.t.Helper()
	if len(got) == 0 && len(want) == 0 {
		return
	}
	if !reflect.DeepEqual(got, want) {
		r.t.Fatalf("%s sends\n%+v\nand not\n%+v", what, got, want)
	}
}

// in is a server with these leases that is in a state since the moment 100, does
// not hear the other server, and has nothing in the box.
func in(t *testing.T, x api.Site, state int, l ...api.Lease) *rig {
	t.Helper()
	r := rigOf(t, x, stored(t, x, api.Normal, 7, l...), 50)
	switch state {
	case api.Startup:
		r = rigOf(t, x, r.d, 100)
	case api.Normal:
		r.hello(api.Normal, 100)
	case api.Interrupted:
		r.hello(api.Normal, 60)
		r.empty(60)
		r.tick(100)
	case api.PartnerDown:
		r.s.Order(100)
	case api.Conflict:
		r.hello(api.Conflict, 100)
	case api.ResInterrupted:
		r.hello(api.Conflict, 60)
		r.empty(60)
		r.tick(100)
	case api.Recover:
		r.hello(api.PartnerDown, 100)
	case api.RecoverWait:
		r.hello(api.PartnerDown, 60)
		r.empty(60)
		r.say(api.Message{Kind: api.Done}, 100)
	case api.RecoverDone:
		r.hello(api.PartnerDown, 60)
		r.empty(60)
		r.say(api.Message{Kind: api.Done}, 60)
		r.tick(100)
	}
	if r.s.Contact().Up() {
		r.empty(100)
		r.renew(api.Startup, 100)
	}
	if r.s.State() != state || r.s.Contact().Up() || r.s.Waits() != 0 || r.s.Drops() != 0 || !r.synced() {
		t.Fatalf("in(%d): %s", state, r.view())
	}
	return r
}

// The records of a log, as the chapters 9, 11 and 13 have them.
func framed(record string) string {
	return string([]byte{byte(len(record) >> 8), byte(len(record))}) + record + "\x5a"
}
func number(n, size int) string {
	b := make([]byte, size)
	for i := range b {
		b[i] = byte(n >> (8 * (size - 1 - i)))
	}
	return string(b)
}
func stateRecord(state int) string { return framed("S" + number(state, 1)) }
func lifeRecord(life int) string   { return framed("F" + number(life, 4)) }
func leaseRecord(l api.Lease) string {
	return framed("L" + number(int(l.Addr), 4) + number(l.Bind, 1) + number(l.Until, 6) + number(l.Acked, 6) +
		number(l.Told, 6) + number(l.At, 6) + number(l.Ver, 6) + number(len(l.Client), 1) + l.Client)
}

// added fails unless the disk has these records, durable, behind what it had before.
func (r *rig) added(what string, before []byte, records ...string) {
	r.t.Helper()
	want := string(before) + strings.Join(records, "")
	if string(r.d.Read()) != want || !r.synced() {
		r.t.Fatalf("%s: the disk has %q, of which %d last, and not %q", what, r.d.Read(), r.d.Lasts(), want)
	}
}

// P21.1: Open

func TestOpenNew(t *testing.T) {
	for _, now := range []int{0, 1, 100, lastTime - 1, lastTime} {
		for id := range 2 {
			d := newDisk(t, 10000)
			r := rigOf(t, site(id), d, now)
			if r.s.State() != api.Startup || r.s.Drops() != 0 || r.s.Waits() != 0 {
				t.Fatalf("Open at %d: %s", now, r.view())
			}
			if c := r.s.Contact(); c == nil || c.Up() || c.Other() != 0 || c.State() != 0 {
				t.Fatalf("Open at %d: %s", now, r.view())
			}
			if s := r.s.Store(); s == nil || s.Life() != 1 || s.State() != api.Startup || s.Table().Count(api.Free) != 8 {
				t.Fatalf("Open at %d: %s", now, r.view())
			}
			// A state that is as it was is not written.
			r.added("Open", nil, lifeRecord(1))
		}
	}
}

func TestOpenStates(t *testing.T) {
	want := []int{
		api.Startup: api.Startup, api.Normal: api.Startup, api.Interrupted: api.Startup, api.PartnerDown: api.PartnerDown,
		api.Conflict: api.Startup, api.ResInterrupted: api.Startup, api.Recover: api.Startup,
		api.RecoverWait: api.Startup, api.RecoverDone: api.Startup,
	}
	for state, next := range want {
		x := site(state % 2)
		d := stored(t, x, state, 40, mixed()...)
		before := d.Read()
		r := rigOf(t, x, d, 100)
		if r.s.State() != next || r.s.Store().State() != next || r.s.Store().Life() != 41 {
			t.Fatalf("Open in %d: %s", state, r.view())
		}
		if !slices.Equal(r.s.Store().Table().All(), mixed()) || r.s.Waits() != 0 {
			t.Fatalf("Open in %d: %s", state, r.view())
		}
		if next == state {
			r.added("Open", before, lifeRecord(41))
		} else {
			r.added("Open", before, lifeRecord(41), stateRecord(next))
		}
	}
}

func TestOpenLives(t *testing.T) {
	for _, life := range []int{0, 1, 2, 255, 256, lastLife - 2, lastLife - 1} {
		r := rigOf(t, site(0), stored(t, site(0), api.Startup, life), 5)
		if r.own() != life+1 {
			t.Fatalf("after the life %d comes %d", life, r.own())
		}
		// The contact is of this life, too.
		if m := r.tick(6); len(m) != 1 || m[0] != (api.Message{Kind: api.Hello, Xid: 1}) {
			t.Fatalf("in the life %d: %+v", r.own(), m)
		}
	}
	d := stored(t, site(0), api.Normal, lastLife, mixed()...)
	before := d.Read()
	s, e := server.Open(site(0), d, 5)
	if s != nil || e != api.ErrFull || !bytes.Equal(before, d.Read()) {
		t.Fatalf("after the last life: %v, %d, %q", s, e, d.Read())
	}
}

// In PartnerDown, the other server's addresses may be given some time after the
// state began.
func TestOpenEntry(t *testing.T) {
	x := site(0)
	for _, entry := range []int{100, 200} {
		d := stored(t, x, api.PartnerDown, 1)
		s, _ := store.Open(d, x.Pool)
		for _, l := range s.Table().All() {
			s.Put(bare(l.Addr, api.Backup, 1))
		}
		s.Sync()
		r := rigOf(t, x, d, entry)
		if p, is := r.client(discover("z"), entry+14); is {
			t.Fatalf("opened at %d: %+v", entry, p)
		}
		if p, is := r.client(discover("z"), entry+15); !is || p.Yi != 20 {
			t.Fatalf("opened at %d: %+v, %t", entry, p, is)
		}
	}
}

// wrongSites is sites that are not valid, each in one field.
func wrongSites() []api.Site {
	var l []api.Site
	wrong := func(do func(x *api.Site)) {
		x := site(0)
		do(&x)
		l = append(l, x)
	}
	for _, n := range []int{-1, 2, math.MinInt, math.MaxInt} {
		wrong(func(x *api.Site) { x.Id = n })
	}
	for _, n := range []int{-1, 1<<30 + 1, math.MinInt, math.MaxInt} {
		wrong(func(x *api.Site) { x.Lead = n })
		wrong(func(x *api.Site) { x.Guard = n })
		wrong(func(x *api.Site) { x.Want = n })
		wrong(func(x *api.Site) { x.Most = n })
		wrong(func(x *api.Site) { x.First = n })
		wrong(func(x *api.Site) { x.Room = n })
	}
	wrong(func(x *api.Site) { x.Want = 0 })
	wrong(func(x *api.Site) { x.Want = 61 })
	wrong(func(x *api.Site) { x.First = 257 })
	wrong(func(x *api.Site) { x.Room = 0 })
	wrong(func(x *api.Site) { x.Pool = []api.Range{{Low: 2, High: 1}} })
	wrong(func(x *api.Site) { x.Pool = []api.Range{{Low: 1, High: 257}} })
	wrong(func(x *api.Site) { *x = api.Site{} })
	return l
}

func TestOpenErrArg(t *testing.T) {
	refused := func(x api.Site, d *disk.Disk, now int) {
		t.Helper()
		before := d.Read()
		s, e := server.Open(x, d, now)
		if s != nil || e != api.ErrArg || !bytes.Equal(before, d.Read()) || d.Lasts() != len(before) {
			t.Fatalf("Open(%+v, %d): %v, %d", x, now, s, e)
		}
	}
	for _, x := range wrongSites() {
		refused(x, newDisk(t, 1000), 5)
		refused(x, stored(t, site(0), api.Normal, 3), 5)
		refused(x, stored(t, site(0), api.Normal, lastLife), -1)
	}
	for _, now := range noMoments {
		refused(site(0), newDisk(t, 1000), now)
		refused(site(1), stored(t, site(0), api.Normal, lastLife), now)
	}
	if s, e := server.Open(site(0), nil, 5); s != nil || e != api.ErrArg {
		t.Fatalf("Open without a disk: %v, %d", s, e)
	}
}

// ragged is a disk with bytes that are no complete frame at its end.
func ragged(t *testing.T, life int) *disk.Disk {
	t.Helper()
	d := stored(t, site(0), api.Normal, life)
	d.Append([]byte{0, 9, 1})
	d.Sync()
	return d
}

func TestOpenErrorsInOrder(t *testing.T) {
	for i, c := range []struct {
		x    api.Site
		now  int
		life int
		fail int
		want api.Errno
	}{
		{site(0), -1, lastLife, 0, api.ErrArg},
		{wrongSites()[0], 5, lastLife, 0, api.ErrArg},
		{site(0), 5, lastLife, 0, api.ErrDown}, // of store.Open
		{site(0), 5, lastLife, 1, api.ErrFull},
		{site(0), 5, lastLife, -1, api.ErrFull},
		{site(0), 5, 1, 0, api.ErrDown},
		{site(0), 5, 1, 1, api.ErrDown}, // of SetLife
		{site(0), 5, 1, 2, api.ErrDown}, // of SetState
		{site(0), 5, 1, 3, api.ErrDown}, // of Sync
		{site(0), 5, 1, 4, api.OK},
	} {
		d := ragged(t, c.life)
		d.Fail(c.fail)
		s, e := server.Open(c.x, d, c.now)
		if e != c.want || (s == nil) != (e != api.OK) {
			t.Fatalf("%d: %v, %d, and not %d", i, s, e, c.want)
		}
	}
}

// Each call that Open makes may fail; nothing more is done then.
func TestOpenOnDisksThatFail(t *testing.T) {
	records := []string{lifeRecord(6), stateRecord(api.Startup)}
	for fail := range 4 {
		d := stored(t, site(0), api.Normal, 5, mixed()...)
		before, lasts := d.Read(), d.Lasts()
		d.Fail(fail)
		s, e := server.Open(site(0), d, 5)
		want := string(before) + strings.Join(records[:min(fail, 2)], "")
		if string(d.Read()) != want {
			t.Fatalf("after %d changes: %q", fail, d.Read())
		}
		if fail == 3 {
			if s == nil || e != api.OK || d.Lasts() != len(want) {
				t.Fatalf("after %d changes: %v, %d", fail, s, e)
			}
			continue
		}
		if s != nil || e != api.ErrDown || d.Lasts() != lasts {
			t.Fatalf("after %d changes: %v, %d", fail, s, e)
		}
		// What was written counts, if it lasts.
		d.Crash(1000)
		life := 6
		if fail > 0 {
			life = 7
		}
		if r := rigOf(t, site(0), d, 5); r.own() != life || r.s.State() != api.Startup {
			t.Fatalf("after %d changes, and again: %s", fail, r.view())
		}
	}
}

func TestOpenWithTooLittleRoom(t *testing.T) {
	one, two := len(lifeRecord(6)), len(stateRecord(api.Startup))
	for more := range one + two + 3 {
		d := newDisk(t, len(stored(t, site(0), api.Normal, 5).Read())+more)
		d.Append(stored(t, site(0), api.Normal, 5).Read())
		d.Sync()
		before := d.Read()
		s, e := server.Open(site(0), d, 5)
		switch {
		case more >= one+two:
			if e != api.OK || s == nil || d.Lasts() != len(before)+one+two {
				t.Fatalf("with room for %d: %v, %d", more, s, e)
			}
		case s != nil || e != api.ErrFull || d.Lasts() != len(before):
			t.Fatalf("with room for %d: %v, %d", more, s, e)
		case more < one && !bytes.Equal(d.Read(), before), more >= one && string(d.Read()) != string(before)+lifeRecord(6):
			t.Fatalf("with room for %d: %q", more, d.Read())
		}
	}
	// Where the state remains, the life is enough.
	d := newDisk(t, one)
	if s, e := server.Open(site(0), d, 5); s == nil || e != api.OK {
		t.Fatalf("with room for a life: %v, %d", s, e)
	}
	if s, e := server.Open(site(0), d, 5); s != nil || e != api.ErrFull {
		t.Fatalf("with no room left: %v, %d", s, e)
	}
}

// A site's pool is a list: what its owner does to it later changes no server.
func TestOpenSharesNothing(t *testing.T) {
	x, y := site(0), site(0)
	r := rigOf(t, x, newDisk(t, 10000), 5)
	if !reflect.DeepEqual(x.Pool, y.Pool) {
		t.Fatalf("Open changes its argument to %+v", x)
	}
	r.hello(api.Normal, 5)
	x.Pool[0] = api.Range{Low: 200, High: 201}
	if p, is := r.client(request("a", 21), 6); !is || p.Yi != 21 {
		t.Fatalf("%+v, %t", p, is)
	}
	if p, is := r.client(discover("b"), 6); !is || p.Yi != 20 {
		t.Fatalf("%+v, %t", p, is)
	}
}

// Two servers on one disk's bytes are two.
func TestTwoServersShareNothing(t *testing.T) {
	a, b := in(t, site(0), api.Normal, mixed()...), in(t, site(0), api.Normal, mixed()...)
	b.still("what another server does", func() {
		a.up(api.Normal, 101)
		a.client(request("z", 20), 101)
		a.tick(102)
		a.s.Peer([]byte{1}, 102)
		a.s.Order(103)
	})
}

// P21.5: Order, and what a server has

func TestOrder(t *testing.T) {
	for state := api.Startup; state <= api.RecoverDone; state++ {
		for _, now := range []int{0, 120, lastTime - 1, lastTime} {
			r := in(t, site(state%2), state, mixed()...)
			before, contact := r.d.Read(), r.s.Contact()
			life := r.own()
			switch state {
			case api.Startup, api.Interrupted, api.ResInterrupted:
				if e := r.s.Order(now); e != api.OK || r.s.State() != api.PartnerDown {
					t.Fatalf("Order in %d at %d: %d, %s", state, now, e, r.view())
				}
				if r.s.Contact() == contact || r.s.Contact().Up() || r.s.Contact().Other() != 0 || r.s.Contact().State() != 0 {
					t.Fatalf("Order in %d at %d: %s", state, now, r.view())
				}
				r.added("Order", before, lifeRecord(life+1), stateRecord(api.PartnerDown))
				r.still("a second Order", func() {
					if e := r.s.Order(now); e != api.ErrState {
						t.Fatalf("a second Order in %d at %d: %d", state, now, e)
					}
				})
			default:
				r.still("Order", func() {
					if e := r.s.Order(now); e != api.ErrState || r.s.Contact() != contact {
						t.Fatalf("Order in %d at %d: %d", state, now, e)
					}
				})
			}
		}
	}
}

func TestOrderErrorsInOrder(t *testing.T) {
	for _, now := range noMoments {
		for _, state := range []int{api.Startup, api.Normal, api.Interrupted} {
			r := in(t, site(0), state)
			r.s.Store().SetLife(lastLife)
			r.d.Fail(0)
			r.still("Order", func() {
				if e := r.s.Order(now); e != api.ErrArg {
					t.Fatalf("Order(%d) in %d: %d", now, state, e)
				}
			})
		}
	}
	r := in(t, site(0), api.Normal)
	r.s.Store().SetLife(lastLife)
	r.d.Fail(0)
	if e := r.s.Order(5); e != api.ErrState {
		t.Fatalf("Order in Normal: %d", e)
	}
	r = in(t, site(0), api.Startup)
	r.s.Store().SetLife(lastLife)
	r.d.Fail(0)
	if e := r.s.Order(5); e != api.ErrFull {
		t.Fatalf("Order in the last life: %d", e)
	}
	r = in(t, site(0), api.Startup)
	r.s.Store().SetLife(lastLife - 1)
	if e := r.s.Order(5); e != api.OK || r.own() != lastLife {
		t.Fatalf("Order in the last life but one: %d", e)
	}
}

// Each call that Order makes may fail; nothing else is changed then.
func TestOrderOnDisksThatFail(t *testing.T) {
	for fail := range 4 {
		r := in(t, site(0), api.Interrupted, mixed()...)
		before, lasts, contact := r.d.Read(), r.d.Lasts(), r.s.Contact()
		life := r.own()
		r.d.Fail(fail)
		e := r.s.Order(120)
		r.d.Fail(-1)
		records := []string{lifeRecord(life + 1), stateRecord(api.PartnerDown)}[:min(fail, 2)]
		if want := string(before) + strings.Join(records, ""); string(r.d.Read()) != want {
			t.Fatalf("after %d changes: %q", fail, r.d.Read())
		}
		if fail == 3 {
			if e != api.OK || r.s.State() != api.PartnerDown || r.s.Contact() == contact || !r.synced() {
				t.Fatalf("after %d changes: %d, %s", fail, e, r.view())
			}
			continue
		}
		if e != api.ErrDown || r.s.State() != api.Interrupted || r.s.Contact() != contact || r.d.Lasts() != lasts {
			t.Fatalf("after %d changes: %d, %s", fail, e, r.view())
		}
		// Once the disk does not fail any more, all of it is done again.
		before = r.d.Read()
		if e := r.s.Order(121); e != api.OK || r.s.State() != api.PartnerDown {
			t.Fatalf("after %d changes, and again: %d, %s", fail, e, r.view())
		}
		r.added("Order", before, lifeRecord(life+1+min(fail, 1)), stateRecord(api.PartnerDown))
	}
}

func TestOrderWithTooLittleRoom(t *testing.T) {
	size := len(lifeRecord(1)) + len(stateRecord(1))
	for more := range size + 1 {
		x := site(0)
		x.Room = len(in(t, x, api.Startup).d.Read()) + more
		r := in(t, x, api.Startup)
		e := r.s.Order(120)
		if more == size {
			if e != api.OK || r.s.State() != api.PartnerDown {
				t.Fatalf("with room for %d: %d, %s", more, e, r.view())
			}
			continue
		}
		if e != api.ErrFull || r.s.State() != api.Startup {
			t.Fatalf("with room for %d: %d, %s", more, e, r.view())
		}
	}
}

// What was sent to the server before an Order is not accepted any more; what it has
// to tell remains, and what it owed does not.
func TestOrderBeginsAnew(t *testing.T) {
	// In Startup, the other server asks for all, and says something.
	r := in(t, site(0), api.Startup, mixed()...)
	r.up(api.Recover, 101)
	r.say(api.Message{Kind: api.All}, 101)
	r.sent("Peer", r.say(api.Message{Kind: api.Update, Xid: 9, Addr: 20, Bind: api.Abandoned}, 101), api.Message{Kind: api.Ack, Xid: 9, Ok: true})
	waits, life := r.s.Waits(), r.own()
	if e := r.s.Order(102); e != api.OK || r.s.Waits() != waits || waits != 7 {
		t.Fatalf("Order: %d, %s", e, r.view())
	}
	r.drops("what is of before", 3, func() {
		r.raw(api.Message{Kind: api.Update, Life: r.life, Seen: life, Xid: 10, Addr: 20, Bind: api.Free, At: 9}, 103)
		r.raw(api.Message{Kind: api.Ack, Life: r.life, Seen: life, Xid: 1, Ok: true}, 103)
		r.raw(api.Message{Kind: api.All, Life: r.life, Seen: life}, 103)
	})
	// The numbers of its hellos begin anew; it does not know the other one's life.
	r.sent("Tick", r.tick(104), api.Message{Kind: api.Hello, Xid: 1, State: api.PartnerDown})
	// The record of updates is empty: the same number is new again.
	r.up(api.Recover, 105)
	r.sent("Peer", r.say(api.Message{Kind: api.Update, Xid: 9, Addr: 20, Bind: api.Active, Client: "z", Pot: 400}, 105), api.Message{Kind: api.Ack, Xid: 9})
	// It owes no Done.
	r.empty(105)
	r.sent("Tick", r.tick(107))
	r.sent("Tick", r.tick(108), api.Message{Kind: api.Hello, Xid: 2, State: api.PartnerDown})
}

func TestWhatAServerHas(t *testing.T) {
	r := in(t, site(0), api.Normal, mixed()...)
	if r.s.Store() != r.s.Store() || r.s.Contact() != r.s.Contact() {
		t.Fatal("Store and Contact are the objects themselves")
	}
	r.still("asking", func() {
		r.s.Store()
		r.s.State()
		r.s.Contact()
		r.s.Waits()
		r.s.Drops()
	})
	// What is put into the store is what the server knows.
	r.s.Store().Put(held(20, api.Active, "z", 400, 0, 0, 1, 1))
	if p, is := r.client(request("y", 20), 101); !is || p.Yi != 0 {
		t.Fatalf("%+v, %t", p, is)
	}
	if p, is := r.client(request("z", 20), 101); !is || p.Yi != 20 {
		t.Fatalf("%+v, %t", p, is)
	}
}
