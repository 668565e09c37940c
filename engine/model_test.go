package engine_test

import (
	"bytes"
	"math"
	"slices"
	"testing"

	"lessor/addr"
	"lessor/api"
	"lessor/balance"
	"lessor/engine"
	"lessor/packet"
	"lessor/ratio"
	"lessor/table"
)

// The last moment, and the greatest number of 4 bytes. They are written as numbers
// here, as the document has them.
const (
	most     = 1 << 40
	greatest = 1<<32 - 1
)

// call is what Answer is given.
type call struct {
	x                 api.Site
	t                 *table.Table
	state, now, entry int
	p                 api.Packet
}

// within tells whether n is from low to high.
func within(n, low, high int) bool { return low <= n && n <= high }

// validSite is whether a site is valid, by the chapter's words.
func validSite(x api.Site) bool {
	_, e := addr.Pool(x.Pool)
	switch {
	case x.Id != 0 && x.Id != 1:
		return false
	case x.Lead < 0, x.Lead > 1<<30, x.Guard < 0, x.Guard > 1<<30:
		return false
	case x.Want < 1, x.Want > 1<<30, x.Most < 1, x.Most > 1<<30, x.Want > x.Most:
		return false
	case x.First < 0, x.First > 256:
		return false
	case x.Room < 1, x.Room > 1<<20:
		return false
	}
	return e == 0
}

// serving is whether clients are served in a state, by chapter 14: in Normal,
// Interrupted and PartnerDown.
func serving(state int) bool { return state == 1 || state == 2 || state == 3 }

// moment is the moment that is nearest to n.
func moment(n int) int {
	switch {
	case n < 0:
		return 0
	case n > most:
		return most
	}
	return n
}

// least is the smallest one of some numbers.
func least(first int, more ...int) int {
	for _, n := range more {
		if n < first {
			first = n
		}
	}
	return first
}

// last is the greatest one of some numbers.
func last(first int, more ...int) int {
	for _, n := range more {
		if n > first {
			first = n
		}
	}
	return first
}

// data is what the first option of p with this code has, or nothing.
func data(p api.Packet, code int) []byte {
	for _, o := range p.Options {
		if o.Code == code {
			return o.Data
		}
	}
	return nil
}

// value is the number that bytes are, the most significant one first.
func value(b []byte) int {
	n := 0
	for _, c := range b {
		n = 256*n + int(c)
	}
	return n
}

// four is n as 4 bytes.
func four(n int) []byte {
	return []byte{byte(n >> 24), byte(n >> 16), byte(n >> 8), byte(n)}
}

// clientOf is the client of a valid packet.
func clientOf(p api.Packet) string {
	if b := data(p, 61); within(len(b), 1, 32) {
		return string(b)
	}
	return string(p.Hw)
}

// wanted is the requested address.
func wanted(p api.Packet) api.Addr {
	if b := data(p, 50); len(b) == 4 {
		return api.Addr(value(b))
	}
	return p.Ci
}

// wish is the requested time.
func wish(x api.Site, p api.Packet) int {
	n := 0
	if b := data(p, 51); len(b) == 4 {
		n = value(b)
	}
	if n == 0 {
		n = x.Want
	}
	return least(n, x.Most)
}

// his is whether a lease is Active and has the client.
func (c call) his(l api.Lease) bool { return l.Bind == 2 && l.Client == clientOf(c.p) }

// may is the rules' May of a lease, by the words of chapter 15.
func (c call) may(l api.Lease) bool {
	if l.Bind == c.x.Id { // Free is 0, Backup is 1
		return true
	}
	over := last(moment(c.entry), l.Until, l.Told)
	return c.state == 3 && l.Bind != 5 && c.now > over+c.x.Lead+c.x.Guard
}

// until is the rules' Until of now and the requested time, by the words of chapter
// 15, and acked.
func (c call) until(acked int) int {
	return least(moment(c.now+wish(c.x, c.p)), moment(last(c.now, acked)+c.x.Lead))
}

// span is the time T of a lease.
func (c call) span(l api.Lease) int {
	acked := 0
	if c.his(l) {
		acked = l.Acked
	}
	return least(c.until(acked)-c.now, greatest)
}

// reply is a reply of a kind without an address.
func (c call) reply(kind int) api.Packet {
	r := api.Packet{Op: 2, Xid: c.p.Xid, Flags: c.p.Flags, Si: c.x.Server, Gi: c.p.Gi, Hw: c.p.Hw}
	r.Options = []api.Option{{Code: 53, Data: []byte{byte(kind)}}, {Code: 54, Data: four(int(c.x.Server))}}
	if kind == 5 {
		r.Ci = c.p.Ci
	}
	return r
}

// with is a reply of a kind with the address of a lease, and its T.
func (c call) with(kind int, l api.Lease) api.Packet {
	r := c.reply(kind)
	r.Yi = l.Addr
	span := c.span(l)
	first, second := ratio.Times(span, c.x.Renew, c.x.Rebind)
	r.Options = append(r.Options,
		api.Option{Code: 51, Data: four(span)}, api.Option{Code: 58, Data: four(first)}, api.Option{Code: 59, Data: four(second)})
	return r
}

// byWords is what Answer has to answer, by the chapter's words.
func byWords(c call) api.Answer {
	if !validSite(c.x) || c.t == nil || !serving(c.state) || !within(c.now, 0, most) || !packet.Right(c.p) || c.p.Op != 1 {
		return api.Answer{}
	}
	kind := 0
	if b := data(c.p, 53); len(b) == 1 {
		kind = int(b[0])
	}
	switch kind {
	case 1:
		return discoverBy(c)
	case 3:
		return requestBy(c)
	case 4:
		if l, e := c.t.Get(wanted(c.p)); e == 0 && c.his(l) {
			return api.Answer{Change: true, Lease: api.Lease{Addr: l.Addr, Bind: 5, Ver: l.Ver}}
		}
	case 7:
		if l, e := c.t.Get(c.p.Ci); e == 0 && c.his(l) {
			l.Bind, l.At = 4, c.now
			return api.Answer{Change: true, Lease: l}
		}
	case 8:
		return api.Answer{Send: true, Reply: c.reply(5)}
	}
	return api.Answer{}
}

// discoverBy is what a Discover is answered with.
func discoverBy(c call) api.Answer {
	if low := balance.Bucket(clientOf(c.p)) < c.x.First; c.state == 1 && low != (c.x.Id == 0) {
		return api.Answer{}
	}
	var own, asked, free []api.Lease
	for _, l := range c.t.All() {
		if c.his(l) {
			own = append(own, l)
		}
		if c.may(l) && l.Addr == wanted(c.p) {
			asked = append(asked, l)
		}
		if c.may(l) {
			free = append(free, l)
		}
	}
	all := append(append(own, asked...), free...)
	if len(all) == 0 || c.span(all[0]) < 1 {
		return api.Answer{}
	}
	return api.Answer{Send: true, Reply: c.with(2, all[0])}
}

// requestBy is what a Request is answered with.
func requestBy(c call) api.Answer {
	server := data(c.p, 54)
	if len(server) == 4 && value(server) != int(c.x.Server) {
		return api.Answer{}
	}
	l, e := c.t.Get(wanted(c.p))
	if e == 0 && c.span(l) >= 1 && (c.his(l) || c.may(l)) {
		return api.Answer{Send: true, Reply: c.with(5, l), Change: true, Lease: c.leased(l), Pot: c.potential(l)}
	}
	if len(server) != 4 && e == 0 && (l.Bind == 0 || l.Bind == 1) {
		return api.Answer{}
	}
	return api.Answer{Send: true, Reply: c.reply(6)}
}

// leased is the rules' Lease, by the words of chapter 15.
func (c call) leased(l api.Lease) api.Lease {
	if c.his(l) {
		l.Until, l.At = last(l.Until, c.until(l.Acked)), c.now
		return l
	}
	return api.Lease{Addr: l.Addr, Bind: 2, Client: clientOf(c.p), Until: c.until(0), At: c.now, Ver: l.Ver}
}

// potential is the rules' Potential of the lease that l becomes, by the words of
// chapter 15.
func (c call) potential(l api.Lease) int {
	return last(c.leased(l).Until, moment(c.now+wish(c.x, c.p)))
}

// sameOptions is whether two lists of options are the same.
func sameOptions(a, b []api.Option) bool {
	return slices.EqualFunc(a, b, func(x, y api.Option) bool { return x.Code == y.Code && bytes.Equal(x.Data, y.Data) })
}

// samePacket is whether two packets are the same.
func samePacket(a, b api.Packet) bool {
	return a.Op == b.Op && a.Xid == b.Xid && a.Secs == b.Secs && a.Flags == b.Flags &&
		a.Ci == b.Ci && a.Yi == b.Yi && a.Si == b.Si && a.Gi == b.Gi &&
		bytes.Equal(a.Hw, b.Hw) && sameOptions(a.Options, b.Options)
}

// sameAnswer is whether two answers are the same.
func sameAnswer(a, b api.Answer) bool {
	return a.Send == b.Send && samePacket(a.Reply, b.Reply) && a.Change == b.Change && a.Lease == b.Lease && a.Pot == b.Pot
}

// sameSite is whether two sites are the same, to the bits of their floats.
func sameSite(a, b api.Site) bool {
	bits := func(x api.Site) [4]uint64 {
		return [4]uint64{math.Float64bits(x.Part), math.Float64bits(x.Slack), math.Float64bits(x.Renew), math.Float64bits(x.Rebind)}
	}
	return a.Id == b.Id && a.Lead == b.Lead && a.Guard == b.Guard && a.Server == b.Server && a.Want == b.Want && a.Most == b.Most &&
		a.First == b.First && a.Room == b.Room && slices.Equal(a.Pool, b.Pool) && bits(a) == bits(b)
}

// copied is a packet in memory of its own.
func copied(p api.Packet) api.Packet {
	p.Hw = slices.Clone(p.Hw)
	p.Options = slices.Clone(p.Options)
	for i := range p.Options {
		p.Options[i].Data = slices.Clone(p.Options[i].Data)
	}
	return p
}

// leasesOf is all leases of a table that may be nil.
func leasesOf(t *table.Table) []api.Lease {
	if t == nil {
		return nil
	}
	return t.All()
}

// answer is what Answer answers to c, twice the same. The arguments have to be as
// they were, and to share no memory with it.
func answer(t *testing.T, c call) api.Answer {
	t.Helper()
	site, was, p := c.x, leasesOf(c.t), copied(c.p)
	site.Pool = slices.Clone(c.x.Pool)
	a := engine.Answer(c.x, c.t, c.state, c.now, c.entry, c.p)
	again := engine.Answer(c.x, c.t, c.state, c.now, c.entry, c.p)
	if !sameAnswer(a, again) {
		t.Fatalf("%+v: %+v, and then %+v", c, a, again)
	}
	spoil(again.Reply)
	if !sameSite(c.x, site) || !slices.Equal(leasesOf(c.t), was) || !samePacket(c.p, p) {
		t.Fatalf("%+v: the arguments were %+v, %+v and %+v", c, site, was, p)
	}
	kept := copied(a.Reply)
	spoil(c.p)
	if !samePacket(a.Reply, kept) {
		t.Fatalf("%+v: what was answered shares memory with the packet", c)
	}
	restore(c.p, p)
	return a
}

// spoil changes all bytes of p.
func spoil(p api.Packet) {
	for i := range p.Hw {
		p.Hw[i] ^= 255
	}
	for i := range p.Options {
		for j := range p.Options[i].Data {
			p.Options[i].Data[j] ^= 255
		}
		p.Options[i].Code ^= 255
	}
}

// restore makes all bytes of p those of was.
func restore(p, was api.Packet) {
	copy(p.Hw, was.Hw)
	for i, o := range was.Options {
		copy(p.Options[i].Data, o.Data)
		p.Options[i].Code = o.Code
	}
}

// check fails unless Answer answers want to c, and the words do, too.
func check(t *testing.T, c call, want api.Answer) {
	t.Helper()
	if a := answer(t, c); !sameAnswer(a, want) {
		t.Errorf("%+v of %+v:\n got %+v\nwant %+v", c, leasesOf(c.t), a, want)
	}
	if a := byWords(c); !sameAnswer(a, want) {
		t.Errorf("by the words, %+v of %+v:\n got %+v\nwant %+v", c, leasesOf(c.t), a, want)
	}
}

// agree fails unless Answer answers to c what the words do; that is returned.
func agree(t *testing.T, c call) api.Answer {
	t.Helper()
	a, by := answer(t, c), byWords(c)
	if !sameAnswer(a, by) {
		t.Fatalf("%+v of %+v:\n got %+v\nwant %+v", c, leasesOf(c.t), a, by)
	}
	return a
}
