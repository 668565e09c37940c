package server_test

import (
	"bytes"
	"fmt"
	"math"
	"math/rand"
	"slices"
	"testing"

	"lessor/api"
	"lessor/clock"
	"lessor/contact"
	"lessor/disk"
	"lessor/engine"
	"lessor/fsm"
	"lessor/lease"
	"lessor/message"
	"lessor/outbox"
	"lessor/packet"
	"lessor/pool"
	"lessor/resolve"
	"lessor/server"
	"lessor/store"
)

// machine is what a server and its model do.
type machine interface {
	Client(b []byte, now int) ([]byte, bool)
	Peer(b []byte, now int) [][]byte
	Tick(now int) [][]byte
	Order(now int) api.Errno
	Store() *store.Store
	State() int
	Contact() *contact.Contact
	Waits() int
	Drops() int
}

// model is a server by the words of the chapter, on a disk of its own.
type model struct {
	x              api.Site
	d              *disk.Disk
	kept           *store.Store
	state, entry   int
	ear            *contact.Contact
	box            *outbox.Box
	seen           *outbox.Seen
	owes           bool
	dropped        int
	failing, vague bool // the disk may fail; what follows is not what the words say clearly
}

// openModel is Open.
func openModel(x api.Site, d *disk.Disk, now int) (*model, api.Errno) {
	if !engine.Right(x) || now < 0 || now > lastTime {
		return nil, api.ErrArg
	}
	kept, e := store.Open(d, x.Pool)
	if e != api.OK {
		return nil, e
	}
	if kept.Life() == lastLife {
		return nil, api.ErrFull
	}
	if e := kept.SetLife(kept.Life() + 1); e != api.OK {
		return nil, e
	}
	next := fsm.Restart(kept.State())
	if next != kept.State() {
		if e := kept.SetState(next); e != api.OK {
			return nil, e
		}
	}
	if e := kept.Sync(); e != api.OK {
		return nil, e
	}
	ear, _ := contact.New(kept.Life())
	return &model{x: x, d: d, kept: kept, state: next, entry: now, ear: ear, box: outbox.New(), seen: outbox.News()}, api.OK
}

// all tells whether all of these are OK. Whether what follows upon an ErrFull is
// tried can be seen only on a disk that is about to fail, or that has what is not
// durable.
func (m *model) all(steps ...func() api.Errno) bool {
	for _, step := range steps {
		e := step()
		if e == api.ErrFull && (m.failing || m.d.Lasts() < len(m.d.Read())) {
			m.vague = true
		}
		if e != api.OK {
			return false
		}
	}
	return true
}

// put is store.Put of l.
func (m *model) put(l api.Lease) func() api.Errno {
	return func() api.Errno { return m.kept.Put(l) }
}

// change is to change a lease.
func (m *model) change(l api.Lease, pot int) bool {
	if !m.all(m.put(l)) {
		return false
	}
	m.box.Put(updateOf(l, pot))
	return true
}

// everything is to send everything.
func (m *model) everything() {
	for _, l := range m.kept.Table().All() {
		if l != (api.Lease{Addr: l.Addr}) {
			pot := l.Until
			if l.Acked > pot {
				pot = l.Acked
			}
			m.box.Put(updateOf(l, pot))
		}
	}
}

// step is to step with an event.
func (m *model) step(event, now int) {
	next := fsm.Next(m.state, event, m.ear.State())
	if next == m.state {
		return
	}
	if m.all(func() api.Errno { return m.kept.SetState(next) }, m.kept.Sync) {
		m.state, m.entry = next, now
	}
}

func (m *model) Client(b []byte, now int) ([]byte, bool) {
	if now < 0 || now > lastTime {
		return nil, false
	}
	p, e := packet.Decode(b)
	if e != api.OK {
		m.dropped++
		return nil, false
	}
	a := engine.Answer(m.x, m.kept.Table(), m.state, now, m.entry, p)
	if a.Change && !m.change(a.Lease, a.Pot) {
		return nil, false
	}
	if (a.Change || a.Send) && m.kept.Sync() != api.OK {
		return nil, false
	}
	if !a.Send {
		return nil, false
	}
	out, _ := packet.Encode(a.Reply)
	return out, true
}

func (m *model) Peer(b []byte, now int) [][]byte {
	if now < 0 || now > lastTime {
		return nil
	}
	said, e := message.Decode(b)
	if e != api.OK {
		m.dropped++
		return nil
	}
	before := m.ear.Up()
	fresh, e := m.ear.Take(said, now)
	if e != api.OK {
		m.dropped++
		return nil
	}
	if fresh {
		m.seen = outbox.News()
	}
	if m.ear.Up() && (!before || fresh) {
		m.box.Again()
		m.everything()
	}
	switch said.Kind {
	case 1:
		if m.ear.Up() {
			m.step(api.Heard, now)
		}
	case 2:
		return m.update(said, now)
	case 3:
		m.ack(said)
	case 4:
		m.everything()
		m.owes = true
	case 5:
		if m.state == api.Recover {
			m.step(api.Synced, now)
		}
	}
	return nil
}

// update is what follows upon an Update.
func (m *model) update(said api.Message, now int) [][]byte {
	newer, noted, same := m.seen.Take(said)
	if same {
		if m.kept.Sync() != api.OK {
			return nil
		}
		return m.coded(api.Message{Kind: 3, Xid: said.Xid, Ok: noted})
	}
	if !newer {
		return nil
	}
	accepted := false
	if l, e := m.kept.Table().Get(said.Addr); e == api.OK {
		next, ok := resolve.Take(l, said, m.state, now, m.x.Guard)
		if next != l && !m.all(m.put(next)) {
			return nil
		}
		accepted = ok
	}
	if m.kept.Sync() != api.OK {
		return nil
	}
	m.seen.Note(said, accepted)
	return m.coded(api.Message{Kind: 3, Xid: said.Xid, Ok: accepted})
}

// ack is what follows upon an Ack.
func (m *model) ack(said api.Message) {
	told, is := m.box.Acked(said.Xid)
	if !is {
		return
	}
	l, _ := m.kept.Table().Get(told.Addr)
	next := resolve.Acked(l, told, said.Ok, m.x.Id == 0)
	if next != l && m.all(m.put(next), m.kept.Sync) && next.Bind == api.Free {
		m.box.Put(updateOf(next, 0))
	}
}

func (m *model) Tick(now int) [][]byte {
	if now < 0 || now > lastTime {
		return nil
	}
	if lost, _ := m.ear.Tick(now); lost {
		m.step(api.Lost, now)
	}
	if m.state == api.RecoverWait && clock.Past(now, m.entry, m.x.Lead+m.x.Guard) {
		m.step(api.Waited, now)
	}
	if m.ear.Up() && m.box.Len() == 0 && (m.state == api.PartnerDown || m.state == api.Conflict) {
		m.step(api.Synced, now)
	}
	if m.ear.Up() && m.state == api.Normal {
		m.maintenance(now)
	}
	if m.kept.Sync() != api.OK {
		return nil
	}
	var l []api.Message
	if !m.ear.Up() || now%2 == 0 {
		if hello, e := m.ear.Hello(m.state); e == api.OK {
			l = append(l, hello)
		}
	}
	if m.ear.Up() {
		if m.state == api.Recover && now%3 == 0 {
			l = append(l, api.Message{Kind: 4})
		}
		if m.owes && m.box.Len() == 0 {
			l = append(l, api.Message{Kind: 5})
			m.owes = false
		}
		sent, _ := m.box.Tick(now)
		l = append(l, sent...)
	}
	return m.coded(l...)
}

// maintenance is the maintenance.
func (m *model) maintenance(now int) {
	if m.x.Id == 0 {
		for _, l := range m.kept.Table().All() {
			if m.box.Busy(l.Addr) {
				continue
			}
			if (l.Bind == 2 || l.Bind == 4) && clock.Past(now, lease.Over(l), m.x.Guard) {
				l.Bind = 3
				m.change(l, 0)
			} else if l.Bind == 3 || l.Bind == 4 {
				m.box.Put(updateOf(l, 0))
			}
		}
	}
	if m.box.Len() > 0 {
		return
	}
	plan := pool.Plan{Part: m.x.Part, Slack: m.x.Slack}
	for _, a := range plan.Chosen(m.x.Id, m.kept.Table().All()) {
		l, _ := m.kept.Table().Get(a)
		m.change(api.Lease{Addr: a, Bind: 1 - m.x.Id, Ver: l.Ver + 1}, 0)
	}
}

func (m *model) Order(now int) api.Errno {
	if now < 0 || now > lastTime {
		return api.ErrArg
	}
	next := fsm.Next(m.state, api.Order, m.ear.State())
	if next == m.state {
		return api.ErrState
	}
	if m.kept.Life() == lastLife {
		return api.ErrFull
	}
	if e := m.kept.SetLife(m.kept.Life() + 1); e != api.OK {
		return e
	}
	if e := m.kept.SetState(next); e != api.OK {
		return e
	}
	if e := m.kept.Sync(); e != api.OK {
		return e
	}
	m.ear, _ = contact.New(m.kept.Life())
	m.seen, m.owes = outbox.News(), false
	m.state, m.entry = next, now
	return api.OK
}

func (m *model) Store() *store.Store       { return m.kept }
func (m *model) State() int                { return m.state }
func (m *model) Contact() *contact.Contact { return m.ear }
func (m *model) Waits() int                { return m.box.Len() }
func (m *model) Drops() int                { return m.dropped }

// coded is messages as bytes, marked.
func (m *model) coded(l ...api.Message) [][]byte {
	var out [][]byte
	for _, one := range l {
		b, _ := message.Encode(m.ear.Mark(one))
		out = append(out, b)
	}
	return out
}

// told is all that a machine tells of itself.
func told(m machine) string {
	c, s := m.Contact(), m.Store()
	return fmt.Sprint(m.State(), m.Waits(), m.Drops(), c.Up(), c.Other(), c.State(), s.State(), s.Life(), s.Table().All())
}

// run is random calls of a server, with what is said to it.
type run struct {
	r         *rand.Rand
	x         api.Site
	now       int
	life, xid int // of the other server, and of its hellos
	number    int // of its updates
}

// anySite is a random site, with room for so many bytes.
func anySite(r *rand.Rand) api.Site {
	part := []float64{0, 0.25, 0.5, 0.75, 1, math.NaN()}
	slack := []float64{0, 0.1, 0.1, 0.1, 0.5, math.NaN()}
	return api.Site{
		Id: r.Intn(2), Lead: r.Intn(12), Guard: r.Intn(5), Server: 9, Want: 1 + r.Intn(20), Most: 20 + r.Intn(20), First: 256 * r.Intn(2),
		Part: part[r.Intn(6)], Slack: slack[r.Intn(6)], Renew: 0.5, Rebind: 0.875,
		Pool: []api.Range{{Low: 1, High: api.Addr(1 + r.Intn(6))}}, Room: []int{200, 600, 1500, 20000}[r.Intn(4)],
	}
}

// next is the next moment, which is rarely an earlier one, or none.
func (u *run) next() int {
	switch u.r.Intn(40) {
	case 0:
		return []int{-1, lastTime + 1, math.MinInt, math.MaxInt}[u.r.Intn(4)]
	case 1:
		return max(u.now-u.r.Intn(10), 0)
	case 2:
		u.now += 6 + u.r.Intn(30)
	default:
		u.now += u.r.Intn(3)
	}
	return u.now
}

// client is a random name of a client.
func (u *run) client() string { return []string{"a", "b", "c", "dd"}[u.r.Intn(4)] }

// addr is a random address, most often one of the pool.
func (u *run) addr() api.Addr { return api.Addr(u.r.Intn(int(u.x.Pool[0].High) + 2)) }

// packet is a random packet of a client.
func (u *run) packet() []byte {
	kinds := []byte{1, 1, 3, 3, 3, 3, 4, 7, 7, 8, 2, 0}
	p := says(int(kinds[u.r.Intn(len(kinds))]), u.client())
	p.Xid = u.r.Uint32()
	p.Ci = u.addr()
	if u.r.Intn(4) > 0 {
		p.Options = append(p.Options, api.Option{Code: 50, Data: four(int(u.addr()))})
	}
	if u.r.Intn(3) == 0 {
		p.Options = append(p.Options, api.Option{Code: 51, Data: four(u.r.Intn(50))})
	}
	if u.r.Intn(3) == 0 {
		p.Options = append(p.Options, api.Option{Code: 54, Data: four(8 + u.r.Intn(2))})
	}
	b, _ := packet.Encode(p)
	return b
}

// message is a random message of the other server to a server of this life, which
// has assigned so many numbers.
func (u *run) message(life, numbers int) []byte {
	m := api.Message{Life: max(u.life, 1), Seen: life}
	switch u.r.Intn(12) {
	case 0: // a new life
		u.life++
		u.xid = u.r.Intn(3)
		u.number = 0
		m.Life = u.life
		fallthrough
	case 1, 2, 3:
		u.xid++
		m.Kind, m.Xid = api.Hello, u.xid
		m.State = []int{0, 1, 1, 1, 2, 3, 3, 4, 5, 6, 7, 8, 8}[u.r.Intn(13)]
	case 4, 5, 6, 7:
		u.number++
		m.Kind, m.Xid, m.Addr, m.Bind = api.Update, max(u.number-u.r.Intn(8)/6, 1), u.addr(), u.r.Intn(6)
		m.Pot, m.At = max(u.now+u.r.Intn(40)-10, 0), max(u.now-u.r.Intn(20), 0)
		if u.r.Intn(10) > 0 && m.Bind != api.Free && m.Bind != api.Backup {
			m.Client = u.client()
		} else {
			m.At = u.r.Intn(10)
		}
	case 8, 9:
		m.Kind, m.Xid, m.Ok = api.Ack, 1+u.r.Intn(numbers+3), u.r.Intn(4) > 0
	case 10:
		m.Kind = api.All
	case 11:
		m.Kind = api.Done
	}
	if u.r.Intn(15) == 0 {
		m.Seen = max(m.Seen-u.r.Intn(2), 0)
	}
	if u.r.Intn(40) == 0 {
		m.Life = max(m.Life-1, 1)
	}
	b, _ := message.Encode(m)
	return b
}

// garble is b, or rarely something like it.
func (u *run) garble(b []byte) []byte {
	switch u.r.Intn(30) {
	case 0:
		b[u.r.Intn(len(b))] ^= byte(1 + u.r.Intn(255))
	case 1:
		return b[:u.r.Intn(len(b))]
	}
	return b
}

// numbers is the greatest number among the updates of out, or n.
func numbers(n int, out [][]byte) int {
	for _, b := range out {
		if m, e := message.Decode(b); e == api.OK && m.Kind == api.Update {
			n = max(n, m.Xid)
		}
	}
	return n
}

// deed is what a run does next: something that is done to a machine, and what comes
// of it.
type deed struct {
	name string
	do   func(m machine) ([][]byte, string)
}

// deed is a random one, for a server of a life that has assigned so many numbers.
func (u *run) deed(life, count int) deed {
	now := u.next()
	switch u.r.Intn(10) {
	case 0, 1, 2, 3:
		b := u.garble(u.packet())
		return deed{fmt.Sprintf("Client(%v, %d)", b, now), func(m machine) ([][]byte, string) {
			own := slices.Clone(b)
			out, is := m.Client(own, now)
			text := fmt.Sprint(out, is, bytes.Equal(own, b))
			scribble(own)
			return [][]byte{out}, text
		}}
	case 4, 5, 6, 7:
		b := u.garble(u.message(life, count))
		return deed{fmt.Sprintf("Peer(%v, %d)", b, now), func(m machine) ([][]byte, string) {
			own := slices.Clone(b)
			out := m.Peer(own, now)
			text := fmt.Sprint(out, bytes.Equal(own, b))
			scribble(own)
			return out, text
		}}
	case 8:
		if u.r.Intn(6) == 0 {
			return deed{fmt.Sprintf("Order(%d)", now), func(m machine) ([][]byte, string) {
				return nil, fmt.Sprint(m.Order(now))
			}}
		}
	}
	return deed{fmt.Sprintf("Tick(%d)", now), func(m machine) ([][]byte, string) {
		out := m.Tick(now)
		return out, fmt.Sprint(out)
	}}
}

// twins are a server and its model.
type twins struct {
	s *server.Server
	m *model
	d [2]*disk.Disk
}

// open opens both, and tells whether they are open.
func (w *twins) open(t *testing.T, x api.Site, now int) bool {
	t.Helper()
	var e, f api.Errno
	own := x
	own.Pool = slices.Clone(x.Pool)
	w.s, e = server.Open(own, w.d[0], now)
	w.m, f = openModel(x, w.d[1], now)
	own.Pool[0] = api.Range{}
	if e != f || (w.s == nil) != (w.m == nil) || !bytes.Equal(w.d[0].Read(), w.d[1].Read()) || w.d[0].Lasts() != w.d[1].Lasts() {
		t.Fatalf("Open(%+v, %d): %d, and not %d", x, now, e, f)
	}
	return e == api.OK
}

// fail lets both disks fail.
func (w *twins) fail(in int) {
	for _, d := range w.d {
		d.Fail(in)
	}
	w.m.failing = in >= 0
}

// restart lets the power fail, and opens both again, on new disks if there is no
// room left.
func (w *twins) restart(t *testing.T, u *run, x api.Site) {
	t.Helper()
	keep := u.r.Intn(60)
	for _, d := range w.d {
		d.Crash(keep)
	}
	for !w.open(t, x, u.now) {
		w.d = [2]*disk.Disk{newDisk(t, x.Room), newDisk(t, x.Room)}
	}
}

// A server answers as its model does, whatever happens to it.
func TestModel(t *testing.T) {
	r := rand.New(rand.NewSource(21))
	calls, sent, vague := 0, 0, 0
	states := map[int]int{}
	for range 400 {
		x := anySite(r)
		u := &run{r: r, x: x, now: r.Intn(50), life: 1}
		w := &twins{d: [2]*disk.Disk{newDisk(t, x.Room), newDisk(t, x.Room)}}
		if !w.open(t, x, u.now) {
			t.Fatalf("%+v can't be opened", x)
		}
		count := 0
		for range 150 {
			switch r.Intn(40) {
			case 0:
				w.fail(r.Intn(4))
			case 1, 2, 3:
				w.fail(-1)
			case 4:
				if r.Intn(3) == 0 {
					w.restart(t, u, x)
					count = 0
				}
			}
			d := u.deed(w.m.Store().Life(), count)
			out, text := d.do(w.s)
			_, want := d.do(w.m)
			if w.m.vague {
				vague++
				break
			}
			if text != want || told(w.s) != told(w.m) {
				t.Fatalf("%+v: %s:\n%s\n%s\nand not\n%s\n%s", x, d.name, text, told(w.s), want, told(w.m))
			}
			if !bytes.Equal(w.d[0].Read(), w.d[1].Read()) || w.d[0].Lasts() != w.d[1].Lasts() {
				t.Fatalf("%+v: %s: the disk has %v, and not %v", x, d.name, w.d[0].Read(), w.d[1].Read())
			}
			count = numbers(count, out)
			calls++
			sent += len(out)
			states[w.s.State()]++
			scribble(out...)
		}
	}
	if calls < 40000 || sent < 20000 || vague > 100 || len(states) != 9 {
		t.Errorf("%d calls, %d messages, %d runs are vague, states %v", calls, sent, vague, states)
	}
	for state, n := range states {
		if n < 200 {
			t.Errorf("only %d calls in %d", n, state)
		}
	}
}
