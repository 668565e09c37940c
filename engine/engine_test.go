package engine_test

import (
	"bytes"
	"math"
	"math/rand"
	"slices"
	"strconv"
	"strings"
	"testing"

	"lessor/api"
	"lessor/balance"
	"lessor/engine"
	"lessor/packet"
	"lessor/table"
)

// The special floats.
var (
	nan       = math.NaN()
	infinite  = math.Inf(1)
	minusZero = math.Copysign(0, -1)
)

// here is the address of the server.
const here = 0x0A000001

// site is a valid site of the server id, which answers all clients in Normal.
func site(id int) api.Site {
	return api.Site{
		Id: id, Lead: 10, Guard: 2, Server: here, Want: 100, Most: 1000, First: 256 * (1 - id),
		Part: 0.5, Slack: 0.1, Renew: 0.5, Rebind: 0.875,
		Pool: []api.Range{{Low: 20, High: 31}}, Room: 10000,
	}
}

// bare is a lease that nobody has.
func bare(a api.Addr, bind int) api.Lease { return api.Lease{Addr: a, Bind: bind, Ver: int(a)} }

// held is a lease that a client has, or had.
func held(a api.Addr, bind int, client string, until, acked, told, at int) api.Lease {
	return api.Lease{Addr: a, Bind: bind, Client: client, Until: until, Acked: acked, Told: told, At: at, Ver: int(a)}
}

// mixed is leases of the whole pool of site, with each Bind, and of the clients a
// and b.
func mixed() []api.Lease {
	return []api.Lease{
		bare(20, api.Free),
		bare(21, api.Backup),
		held(22, api.Active, "a", 60, 55, 58, 40),
		held(23, api.Active, "b", 61, 150, 0, 41),
		held(24, api.Expired, "a", 30, 300, 35, 20),
		held(25, api.Released, "a", 33, 400, 31, 21),
		bare(26, api.Abandoned),
		held(27, api.Expired, "b", 30, 300, 35, 20),
		held(28, api.Released, "b", 33, 400, 31, 21),
		bare(29, api.Free),
		bare(30, api.Backup),
		held(31, api.Active, "a", 70, 65, 0, 42),
	}
}

// tableOf is the table of the pool of x with these leases.
func tableOf(t *testing.T, x api.Site, l ...api.Lease) *table.Table {
	t.Helper()
	out, e := table.New(x.Pool)
	if e != api.OK {
		t.Fatalf("table.New(%v): %d", x.Pool, e)
	}
	for _, one := range l {
		if e := out.Set(one); e != api.OK {
			t.Fatalf("Set(%+v): %d", one, e)
		}
	}
	return out
}

// Options of a client's packet.
func ofAddr(a api.Addr) api.Option    { return api.Option{Code: 50, Data: four(int(a))} }
func ofTime(n int) api.Option         { return api.Option{Code: 51, Data: four(n)} }
func ofServer(a api.Addr) api.Option  { return api.Option{Code: 54, Data: four(int(a))} }
func ofClient(name string) api.Option { return api.Option{Code: 61, Data: []byte(name)} }

// says is the packet of a kind of a client, with more options.
func says(kind int, client string, more ...api.Option) api.Packet {
	l := []api.Option{{Code: 53, Data: []byte{byte(kind)}}, ofClient(client)}
	return api.Packet{Op: 1, Xid: 7, Hw: []byte{1, 2, 3}, Options: append(l, more...)}
}

// from is p with this Ci.
func from(a api.Addr, p api.Packet) api.Packet {
	p.Ci = a
	return p
}

// at is a call in a state at the moment 50, which was entered at 40.
func at(t *testing.T, x api.Site, state int, p api.Packet, l ...api.Lease) call {
	t.Helper()
	return call{x: x, t: tableOf(t, x, l...), state: state, now: 50, entry: 40, p: p}
}

// kindOf is the kind of what is sent: "offer", "ack" or "nak", or nothing.
func kindOf(a api.Answer) string {
	if !a.Send {
		return ""
	}
	return map[int]string{2: "offer", 5: "ack", 6: "nak"}[packet.Kind(a.Reply)]
}

// P20.1: Right

// siteCase is a change of a valid site, and whether that is valid then.
type siteCase struct {
	name string
	do   func(x *api.Site)
	is   bool
}

// set is cases in which one number is changed.
func set(name string, field func(x *api.Site) *int, is bool, numbers ...int) []siteCase {
	var l []siteCase
	for _, n := range numbers {
		l = append(l, siteCase{name + " " + strconv.Itoa(n), func(x *api.Site) { *field(x) = n }, is})
	}
	return l
}

// numberCases are cases of a site's numbers.
func numberCases() []siteCase {
	id := func(x *api.Site) *int { return &x.Id }
	lead := func(x *api.Site) *int { return &x.Lead }
	guard := func(x *api.Site) *int { return &x.Guard }
	want := func(x *api.Site) *int { return &x.Want }
	many := func(x *api.Site) *int { return &x.Most }
	first := func(x *api.Site) *int { return &x.First }
	room := func(x *api.Site) *int { return &x.Room }
	return slices.Concat(
		set("Id", id, true, 0, 1),
		set("Id", id, false, -1, 2, -2, 3, 255, 256, 257, 1<<32, math.MinInt, math.MaxInt),
		set("Lead", lead, true, 0, 1, 1<<30-1, 1<<30),
		set("Lead", lead, false, -1, 1<<30+1, 1<<31, 1<<40, math.MinInt, math.MaxInt),
		set("Guard", guard, true, 0, 1, 1<<30-1, 1<<30),
		set("Guard", guard, false, -1, 1<<30+1, 1<<31, 1<<40, math.MinInt, math.MaxInt),
		set("Want", want, true, 1, 2, 999, 1000),
		set("Want", want, false, 0, -1, 1001, 1<<30, 1<<30+1, math.MinInt, math.MaxInt),
		set("Most", many, true, 100, 101, 1<<30-1, 1<<30),
		set("Most", many, false, 0, -1, 1, 99, 1<<30+1, 1<<31, 1<<40, math.MinInt, math.MaxInt),
		set("First", first, true, 0, 1, 128, 255, 256),
		set("First", first, false, -1, 257, 512, math.MinInt, math.MaxInt),
		set("Room", room, true, 1, 2, 1<<20-1, 1<<20),
		set("Room", room, false, 0, -1, 1<<20+1, 1<<30, math.MinInt, math.MaxInt),
	)
}

// times is a case in which Want and Most are changed.
func times(want, many int, is bool) siteCase {
	name := "Want " + strconv.Itoa(want) + ", Most " + strconv.Itoa(many)
	return siteCase{name, func(x *api.Site) { x.Want, x.Most = want, many }, is}
}

// timeCases are cases of Want and Most together.
func timeCases() []siteCase {
	return []siteCase{
		times(1, 1, true), times(1, 2, true), times(1000, 1000, true), times(1, 1<<30, true),
		times(1<<30-1, 1<<30, true), times(1<<30, 1<<30, true),
		times(0, 0, false), times(0, 1, false), times(1, 0, false), times(2, 1, false), times(1001, 1000, false),
		times(1<<30, 1<<30-1, false), times(1<<30+1, 1<<30+1, false), times(1<<30, 1<<30+1, false), times(1<<30+1, 1<<30, false),
		times(1, 1<<30+1, false), times(-1, -1, false), times(-2, -1, false), times(math.MinInt, math.MaxInt, false),
		times(math.MaxInt, math.MaxInt, false), times(math.MinInt, math.MinInt, false),
	}
}

// pools is a case in which the pool is changed.
func pools(name string, is bool, l ...api.Range) siteCase {
	return siteCase{"a pool " + name, func(x *api.Site) { x.Pool = l }, is}
}

// poolCases are cases of pools that addr.Pool accepts, or doesn't.
func poolCases() []siteCase {
	return []siteCase{
		pools("without ranges", true),
		pools("of one address", true, api.Range{Low: 9, High: 9}),
		pools("of 0", true, api.Range{}),
		pools("of the greatest address", true, api.Range{Low: greatest, High: greatest}),
		pools("in any order", true, api.Range{Low: 30, High: 40}, api.Range{Low: 1, High: 4}),
		pools("that overlaps", true, api.Range{Low: 1, High: 200}, api.Range{Low: 100, High: 256}, api.Range{Low: 1, High: 200}),
		pools("of 256", true, api.Range{Low: 1, High: 256}),
		pools("of 257", false, api.Range{Low: 1, High: 257}),
		pools("of 257 in two", false, api.Range{Low: 1, High: 256}, api.Range{Low: 500, High: 500}),
		pools("of all", false, api.Range{Low: 0, High: greatest}),
		pools("the wrong way round", false, api.Range{Low: 5, High: 4}),
		pools("one of which is the wrong way round", false, api.Range{Low: 20, High: 31}, api.Range{Low: 5, High: 4}),
	}
}

// freeCases are cases of what may be anything.
func freeCases() []siteCase {
	var l []siteCase
	for _, f := range []float64{nan, infinite, -infinite, 0, minusZero, -1, 2, math.MaxFloat64, math.SmallestNonzeroFloat64} {
		name := strconv.FormatFloat(f, 'g', -1, 64)
		l = append(l,
			siteCase{"Part " + name, func(x *api.Site) { x.Part = f }, true},
			siteCase{"Slack " + name, func(x *api.Site) { x.Slack = f }, true},
			siteCase{"Renew " + name, func(x *api.Site) { x.Renew = f }, true},
			siteCase{"Rebind " + name, func(x *api.Site) { x.Rebind = f }, true})
	}
	for _, a := range []api.Addr{0, 1, 25, greatest} {
		l = append(l, siteCase{"a server at " + strconv.Itoa(int(a)), func(x *api.Site) { x.Server = a }, true})
	}
	return l
}

// siteCases are all cases of a site with one change.
func siteCases() []siteCase {
	return slices.Concat(numberCases(), timeCases(), poolCases(), freeCases())
}

func TestRight(t *testing.T) {
	if !engine.Right(site(0)) || !engine.Right(site(1)) {
		t.Error("an ordinary site is not valid")
	}
	if engine.Right(api.Site{}) {
		t.Error("the zero value is valid")
	}
	for _, c := range siteCases() {
		for id := range 2 {
			x := site(id)
			c.do(&x)
			pool := slices.Clone(x.Pool)
			if is := engine.Right(x); is != c.is || validSite(x) != c.is {
				t.Errorf("with %s: Right = %t, by the words %t, want %t", c.name, is, validSite(x), c.is)
			}
			if !slices.Equal(x.Pool, pool) {
				t.Errorf("with %s: Right made the pool %v", c.name, x.Pool)
			}
		}
	}
}

// All changes that leave a site valid may be there together; with one that
// doesn't, no other one helps.
func TestRightOfTwoChanges(t *testing.T) {
	for _, c := range siteCases() {
		for _, d := range siteCases() {
			x := site(0)
			c.do(&x)
			d.do(&x)
			if is := engine.Right(x); is != validSite(x) {
				t.Errorf("with %s and %s: Right = %t, want %t", c.name, d.name, is, validSite(x))
			}
		}
	}
}

// P20.1: when nothing is sent, and nothing changed

// ordinary are calls of each kind of packet that is answered, in which something
// is sent or changed.
func ordinary(t *testing.T) []call {
	t.Helper()
	var l []call
	for id := range 2 {
		for state := 1; state <= 3; state++ {
			for _, p := range []api.Packet{
				says(1, "c"), says(1, "a"), says(3, "a", ofAddr(22)), says(3, "c", ofAddr(99)),
				says(3, "c", ofAddr(api.Addr(20+id)), ofServer(here)),
				says(4, "a", ofAddr(22)), from(22, says(7, "a")), says(8, "c"),
			} {
				l = append(l, at(t, site(id), state, p, mixed()...))
			}
		}
	}
	return l
}

// change is one of a call.
type change struct {
	name string
	do   func(c *call)
}

// ofSites are the changes of a call's site by which it is valid, or isn't.
func ofSites(is bool) []change {
	var l []change
	for _, one := range siteCases() {
		if one.is == is {
			l = append(l, change{one.name, func(c *call) { one.do(&c.x) }})
		}
	}
	return l
}

// ofPacket is a change of a call's packet.
func ofPacket(name string, do func(p *api.Packet)) change {
	return change{name, func(c *call) {
		c.p = copied(c.p)
		do(&c.p)
	}}
}

// more is a change that appends options.
func more(name string, l ...api.Option) change {
	return ofPacket(name, func(p *api.Packet) { p.Options = append(p.Options, l...) })
}

// wrong are changes of a call behind each of which nothing is sent, and nothing
// changed.
func wrong() []change {
	l := append(ofSites(false), change{"no table", func(c *call) { c.t = nil }})
	for _, n := range []int{0, 4, 5, 6, 7, 8, 9, 10, 64, 65, 66, 67, -1, -2, -3, math.MinInt, math.MinInt + 1, math.MaxInt} {
		l = append(l, change{"the state " + strconv.Itoa(n), func(c *call) { c.state = n }})
	}
	for _, n := range []int{-1, -50, math.MinInt, most + 1, 2 * most, math.MaxInt} {
		l = append(l, change{"the moment " + strconv.Itoa(n), func(c *call) { c.now = n }})
	}
	for _, n := range []int{0, 2, 3, -1, 255, 256, 257, math.MinInt, math.MaxInt} {
		l = append(l, ofPacket("Op "+strconv.Itoa(n), func(p *api.Packet) { p.Op = n }))
	}
	for _, n := range []int{-1, 65536, math.MinInt, math.MaxInt} {
		l = append(l,
			ofPacket("Secs "+strconv.Itoa(n), func(p *api.Packet) { p.Secs = n }),
			ofPacket("Flags "+strconv.Itoa(n), func(p *api.Packet) { p.Flags = n }))
	}
	for _, n := range []int{0, 17, 256} {
		l = append(l, ofPacket("so long a Hw: "+strconv.Itoa(n), func(p *api.Packet) { p.Hw = make([]byte, n) }))
	}
	return append(l,
		more("a Code 0", api.Option{Code: 0}),
		more("a Code 255", api.Option{Code: 255}),
		more("a Code below 0", api.Option{Code: -1}),
		more("a Code above 255", api.Option{Code: 256 + 54}),
		more("Data of 256 bytes", api.Option{Code: 1, Data: make([]byte, 256)}),
		more("too many options", make([]api.Option, 600)...),
		// Of an Inform, one byte too many, and of all others, more.
		more("too many bytes", long(1, 255), long(2, 255), long(3, 255), long(4, 245)))
}

// long is an option with so many bytes.
func long(code, many int) api.Option { return api.Option{Code: code, Data: make([]byte, many)} }

func TestNothingForWhatIsNotValid(t *testing.T) {
	for _, c := range ordinary(t) {
		if a := agree(t, c); !a.Send && !a.Change {
			t.Fatalf("%+v is answered by nothing", c)
		}
		for _, w := range wrong() {
			spoilt := c
			w.do(&spoilt)
			if a := answer(t, spoilt); !sameAnswer(a, api.Answer{}) {
				t.Errorf("with %s, %+v is answered by %+v", w.name, spoilt, a)
			}
		}
	}
}

// Two things that are wrong are no better than one.
func TestNothingForTwoThingsThatAreNotValid(t *testing.T) {
	c := at(t, site(0), api.Normal, says(8, "c"), mixed()...)
	for _, w := range wrong() {
		for _, v := range wrong() {
			spoilt := c
			w.do(&spoilt)
			v.do(&spoilt)
			// One of two changes of Want and Most may mend the other one, which the words know.
			a := engine.Answer(spoilt.x, spoilt.t, spoilt.state, spoilt.now, spoilt.entry, spoilt.p)
			if !sameAnswer(a, byWords(spoilt)) {
				t.Errorf("with %s and %s, %+v is answered by %+v", w.name, v.name, spoilt, a)
			}
		}
	}
	all := c
	for _, w := range wrong() {
		w.do(&all)
	}
	if a := answer(t, all); !sameAnswer(a, api.Answer{}) {
		t.Errorf("with all that may be wrong, %+v is sent", a)
	}
}

// edges are changes of a call with which it is answered as before, or as one
// whose arguments are as far as they may be.
func edges() []change {
	l := ofSites(true)
	for _, n := range []int{1, 2, 3} {
		l = append(l, change{"the state " + strconv.Itoa(n), func(c *call) { c.state = n }})
	}
	for _, n := range []int{0, 1, most - 1, most} {
		l = append(l, change{"the moment " + strconv.Itoa(n), func(c *call) { c.now = n }})
	}
	for _, n := range []int{0, -1, math.MinInt, most, most + 1, math.MaxInt} {
		l = append(l, change{"the entry " + strconv.Itoa(n), func(c *call) { c.entry = n }})
	}
	for _, n := range []int{0, 1, 32768, 65535} {
		l = append(l,
			ofPacket("Secs "+strconv.Itoa(n), func(p *api.Packet) { p.Secs = n }),
			ofPacket("Flags "+strconv.Itoa(n), func(p *api.Packet) { p.Flags = n }))
	}
	for _, n := range []int{1, 6, 16} {
		l = append(l, ofPacket("so long a Hw: "+strconv.Itoa(n), func(p *api.Packet) { p.Hw = make([]byte, n) }))
	}
	return append(l,
		more("a Code 1", api.Option{Code: 1}),
		more("a Code 254", api.Option{Code: 254}),
		more("Data of 255 bytes", long(1, 255)),
		// Of an Inform, 1024, and of others, perhaps too many.
		more("as many bytes as may be", long(1, 255), long(2, 255), long(3, 255), long(4, 244)))
}

// With all that is just valid, a client that Informs is answered.
func TestEdgesAreAnswered(t *testing.T) {
	for id := range 2 {
		for _, one := range edges() {
			c := at(t, site(id), api.Normal, says(8, "c"), mixed()...)
			one.do(&c)
			if a := agree(t, c); kindOf(a) != "ack" || a.Change {
				t.Errorf("with %s, %+v is answered by %+v", one.name, c, a)
			}
		}
	}
}

// Each other packet is answered as the words say with all that is just valid, but
// for a pool that is not that of the table.
func TestEdgesAgainstTheWords(t *testing.T) {
	for _, c := range ordinary(t) {
		for _, one := range edges() {
			if strings.HasPrefix(one.name, "a pool") {
				continue
			}
			d := c
			one.do(&d)
			agree(t, d)
		}
	}
}

// With the table of another pool, everything ends, and what is promised is in that
// table.
func TestTablesOfOtherPools(t *testing.T) {
	for _, c := range ordinary(t) {
		for _, one := range poolCases() {
			d := c
			one.do(&d.x)
			if a := answer(t, d); a.Reply.Yi != 0 {
				checkPromise(t, d, a)
			}
			if one.is {
				d.t = tableOf(t, d.x)
				agree(t, d)
			}
		}
	}
}

// All addresses of a pool are in it, whatever the order of its ranges, and however
// often they are repeated.
func TestPoolsOfAnyForm(t *testing.T) {
	for _, one := range poolCases() {
		x := site(0)
		one.do(&x)
		if !one.is {
			continue
		}
		tab := tableOf(t, x)
		for _, l := range tab.All() {
			c := call{x: x, t: tab, state: api.Normal, now: 50, entry: 40}
			for kind, want := range map[int]string{1: "offer", 3: "ack"} {
				c.p = says(kind, "c", ofAddr(l.Addr))
				if a := agree(t, c); kindOf(a) != want || a.Reply.Yi != l.Addr {
					t.Errorf("%s: %d is requested, and %+v answered", one.name, l.Addr, a)
				}
			}
		}
	}
}

// P20.1: what a reply has

// wide is a packet in which nothing is zero.
func wide(kind int, more ...api.Option) api.Packet {
	p := says(kind, "a", more...)
	p.Xid, p.Secs, p.Flags, p.Ci, p.Yi, p.Si, p.Gi = 0xFEDCBA98, 77, 0x8001, 24, 3, 4, 0x0B0000FE
	p.Hw = []byte{9, 8, 7, 6, 5, 4}
	return p
}

func TestOffer(t *testing.T) {
	want := api.Answer{Send: true, Reply: api.Packet{
		Op: 2, Xid: 0xFEDCBA98, Flags: 0x8001, Yi: 22, Si: here, Gi: 0x0B0000FE, Hw: []byte{9, 8, 7, 6, 5, 4},
		Options: []api.Option{
			{Code: 53, Data: []byte{2}}, {Code: 54, Data: []byte{10, 0, 0, 1}}, {Code: 51, Data: []byte{0, 0, 0, 15}},
			{Code: 58, Data: []byte{0, 0, 0, 7}}, {Code: 59, Data: []byte{0, 0, 0, 13}},
		},
	}}
	check(t, at(t, site(0), api.Normal, wide(1), mixed()...), want)
}

func TestAck(t *testing.T) {
	want := api.Answer{
		Send: true, Reply: api.Packet{
			Op: 2, Xid: 0xFEDCBA98, Flags: 0x8001, Ci: 24, Yi: 31, Si: here, Gi: 0x0B0000FE, Hw: []byte{9, 8, 7, 6, 5, 4},
			Options: []api.Option{
				{Code: 53, Data: []byte{5}}, {Code: 54, Data: []byte{10, 0, 0, 1}}, {Code: 51, Data: []byte{0, 0, 0, 25}},
				{Code: 58, Data: []byte{0, 0, 0, 12}}, {Code: 59, Data: []byte{0, 0, 0, 21}},
			},
		},
		Change: true, Lease: api.Lease{Addr: 31, Bind: 2, Client: "a", Until: 75, Acked: 65, At: 50, Ver: 31}, Pot: 150,
	}
	check(t, at(t, site(0), api.Normal, wide(3, ofAddr(31)), mixed()...), want)
}

func TestNak(t *testing.T) {
	want := api.Answer{Send: true, Reply: api.Packet{
		Op: 2, Xid: 0xFEDCBA98, Flags: 0x8001, Si: here, Gi: 0x0B0000FE, Hw: []byte{9, 8, 7, 6, 5, 4},
		Options: []api.Option{{Code: 53, Data: []byte{6}}, {Code: 54, Data: []byte{10, 0, 0, 1}}},
	}}
	check(t, at(t, site(0), api.Normal, wide(3, ofAddr(23)), mixed()...), want)
}

func TestInform(t *testing.T) {
	for _, a := range []api.Addr{0, 20, 22, 23, 99, greatest} {
		want := api.Answer{Send: true, Reply: api.Packet{
			Op: 2, Xid: 0xFEDCBA98, Flags: 0x8001, Ci: a, Si: here, Gi: 0x0B0000FE, Hw: []byte{9, 8, 7, 6, 5, 4},
			Options: []api.Option{{Code: 53, Data: []byte{5}}, {Code: 54, Data: []byte{10, 0, 0, 1}}},
		}}
		for id := range 2 {
			for state := 1; state <= 3; state++ {
				// Whose bucket the client is in does not count, nor what it requests.
				x := site(id)
				x.First = 256 - x.First
				check(t, at(t, x, state, from(a, wide(8)), mixed()...), want)
				check(t, at(t, x, state, from(a, wide(8, ofAddr(22), ofTime(5), ofServer(8))), mixed()...), want)
			}
		}
	}
}

// What is zero in the packet is zero in the reply; each server says its own
// address.
func TestReplyOfZeros(t *testing.T) {
	for _, server := range []api.Addr{0, 1, 255, 256, 0x01020304, greatest} {
		x := site(1)
		x.Server = server
		p := api.Packet{Op: 1, Hw: []byte{0}, Options: []api.Option{{Code: 53, Data: []byte{8}}}}
		want := api.Answer{Send: true, Reply: api.Packet{
			Op: 2, Si: server, Hw: []byte{0},
			Options: []api.Option{{Code: 53, Data: []byte{5}}, {Code: 54, Data: four(int(server))}},
		}}
		check(t, at(t, x, api.Normal, p), want)
	}
}

// spanOf is the numbers of the options 51, 58 and 59 of a reply.
func spanOf(p api.Packet) [3]int {
	return [3]int{value(data(p, 51)), value(data(p, 58)), value(data(p, 59))}
}

// The times of renewing and binding anew are parts of T, whatever parts.
func TestTimes(t *testing.T) {
	cases := []struct {
		renew, rebind float64
		first, second int
	}{
		{0.5, 0.875, 500, 875},
		{0.5, 0.25, 500, 500},
		{0.5, 0.5, 500, 500},
		{0, 0, 0, 0},
		{minusZero, minusZero, 0, 0},
		{minusZero, 0.875, 0, 875},
		{0.5, minusZero, 500, 500},
		{nan, nan, 0, 0},
		{nan, 0.875, 0, 875},
		{0.5, nan, 500, 500},
		{infinite, infinite, 1000, 1000},
		{-infinite, infinite, 0, 1000},
		{infinite, -infinite, 1000, 1000},
		{-infinite, -infinite, 0, 0},
		{0.0009, 0.0011, 0, 1},
		{0.9999, 1, 999, 1000},
		{1, 2, 1000, 1000},
		{-1, 0.3339, 0, 333},
		{math.MaxFloat64, 0, 1000, 1000},
		{math.SmallestNonzeroFloat64, -math.MaxFloat64, 0, 0},
	}
	for _, c := range cases {
		x := site(0)
		x.Lead, x.Renew, x.Rebind = 5000, c.renew, c.rebind
		for _, p := range []api.Packet{says(1, "c", ofTime(1000)), says(3, "c", ofAddr(20), ofTime(1000))} {
			a := agree(t, at(t, x, api.Normal, p, mixed()...))
			if got, want := spanOf(a.Reply), [3]int{1000, c.first, c.second}; got != want {
				t.Errorf("of %g and %g: %v, want %v", c.renew, c.rebind, got, want)
			}
		}
	}
}

// P20.1: the requested time, and T

// spanCase is what a client is promised that has the Active lease with Until and
// Acked, or the Free one if has is not set.
type spanCase struct {
	lead, want, most int // of the site
	asked            int // or -1
	has              bool
	until, acked     int
	now              int
	span, then, pot  int // T, and Until and Pot of what is recorded
}

// checkSpan fails unless a Request is answered by what the case says, and a
// Discover by an Offer of the same T, or both by no promise if T is 0.
func checkSpan(t *testing.T, c spanCase) {
	t.Helper()
	x := site(0)
	x.Lead, x.Want, x.Most = c.lead, c.want, c.most
	l := bare(20, api.Free)
	if c.has {
		l = held(20, api.Active, "a", c.until, c.acked, 0, 0)
	}
	options := []api.Option{ofAddr(20)}
	if c.asked >= 0 {
		options = append(options, ofTime(c.asked))
	}
	for state := 1; state <= 3; state++ {
		d := call{x: x, t: tableOf(t, x, l), state: state, now: c.now, p: says(1, "a", options...)}
		a := agree(t, d)
		if a.Send != (c.span > 0) || a.Send && (a.Reply.Yi != 20 || spanOf(a.Reply)[0] != c.span) {
			t.Errorf("%+v: Discover is answered by %+v", c, a)
		}
		d.p = says(3, "a", options...)
		a = agree(t, d)
		if a.Change != (c.span > 0) || a.Change && (spanOf(a.Reply)[0] != c.span || a.Lease.Until != c.then || a.Pot != c.pot) {
			t.Errorf("%+v: Request is answered by %+v", c, a)
		}
	}
}

// The requested time is Want if it is 0, or none, and at most Most.
func TestRequestedTime(t *testing.T) {
	for _, c := range []spanCase{
		{lead: 10, want: 100, most: 1000, asked: -1, now: 50, span: 10, then: 60, pot: 150},
		{lead: 10, want: 100, most: 1000, asked: 0, now: 50, span: 10, then: 60, pot: 150},
		{lead: 10, want: 100, most: 1000, asked: 1, now: 50, span: 1, then: 51, pot: 51},
		{lead: 10, want: 100, most: 1000, asked: 9, now: 50, span: 9, then: 59, pot: 59},
		{lead: 10, want: 100, most: 1000, asked: 10, now: 50, span: 10, then: 60, pot: 60},
		{lead: 10, want: 100, most: 1000, asked: 11, now: 50, span: 10, then: 60, pot: 61},
		{lead: 10, want: 100, most: 1000, asked: 999, now: 50, span: 10, then: 60, pot: 1049},
		{lead: 10, want: 100, most: 1000, asked: 1000, now: 50, span: 10, then: 60, pot: 1050},
		{lead: 10, want: 100, most: 1000, asked: 1001, now: 50, span: 10, then: 60, pot: 1050},
		{lead: 10, want: 100, most: 1000, asked: greatest, now: 50, span: 10, then: 60, pot: 1050},
		{lead: 1 << 30, want: 100, most: 1000, asked: -1, now: 50, span: 100, then: 150, pot: 150},
		{lead: 1 << 30, want: 100, most: 1000, asked: 0, now: 50, span: 100, then: 150, pot: 150},
		{lead: 1 << 30, want: 100, most: 1000, asked: 99, now: 50, span: 99, then: 149, pot: 149},
		{lead: 1 << 30, want: 100, most: 1000, asked: 999, now: 50, span: 999, then: 1049, pot: 1049},
		{lead: 1 << 30, want: 100, most: 1000, asked: 1000, now: 50, span: 1000, then: 1050, pot: 1050},
		{lead: 1 << 30, want: 100, most: 1000, asked: 1001, now: 50, span: 1000, then: 1050, pot: 1050},
		{lead: 1 << 30, want: 100, most: 1000, asked: 1 << 31, now: 50, span: 1000, then: 1050, pot: 1050},
		{lead: 1 << 30, want: 100, most: 1000, asked: greatest, now: 50, span: 1000, then: 1050, pot: 1050},
		{lead: 10, want: 1, most: 1, asked: -1, now: 50, span: 1, then: 51, pot: 51},
		{lead: 10, want: 1, most: 1, asked: greatest, now: 50, span: 1, then: 51, pot: 51},
		{lead: 10, want: 7, most: 7, asked: 0, now: 50, span: 7, then: 57, pot: 57},
	} {
		checkSpan(t, c)
	}
}

// A requested time that does not have 4 bytes is none; the first one counts.
func TestRequestedTimeOfOtherLengths(t *testing.T) {
	x := site(0)
	x.Lead = 5000
	for _, c := range []struct {
		l    []api.Option
		span int
	}{
		{[]api.Option{{Code: 51}}, 100},
		{[]api.Option{{Code: 51, Data: []byte{5}}}, 100},
		{[]api.Option{{Code: 51, Data: []byte{1, 5}}}, 100},
		{[]api.Option{{Code: 51, Data: []byte{0, 0, 5}}}, 100},
		{[]api.Option{{Code: 51, Data: []byte{0, 0, 0, 0, 5}}}, 100},
		{[]api.Option{{Code: 51, Data: []byte{5}}, ofTime(7)}, 100},
		{[]api.Option{ofTime(7), ofTime(9)}, 7},
		{[]api.Option{ofTime(0), ofTime(9)}, 100},
		{[]api.Option{ofTime(258)}, 258},
	} {
		for _, kind := range []int{1, 3} {
			p := says(kind, "a", append([]api.Option{ofAddr(20)}, c.l...)...)
			if a := agree(t, at(t, x, api.Normal, p)); spanOf(a.Reply)[0] != c.span {
				t.Errorf("with %v, T is %d, want %d", c.l, spanOf(a.Reply)[0], c.span)
			}
		}
	}
}

// T is at most Lead beyond the greater one of now and what was acknowledged for
// this client; what was promised before is kept.
func TestSpan(t *testing.T) {
	for _, c := range []spanCase{
		{lead: 0, want: 100, most: 1000, asked: -1, now: 50, span: 0},
		{lead: 1, want: 100, most: 1000, asked: -1, now: 50, span: 1, then: 51, pot: 150},
		{lead: 1, want: 100, most: 1000, asked: 1, now: 50, span: 1, then: 51, pot: 51},
		{lead: 0, want: 100, most: 1000, asked: -1, has: true, until: 90, acked: 0, now: 50, span: 0},
		{lead: 0, want: 100, most: 1000, asked: -1, has: true, until: 90, acked: 50, now: 50, span: 0},
		{lead: 0, want: 100, most: 1000, asked: -1, has: true, until: 50, acked: 51, now: 50, span: 1, then: 51, pot: 150},
		{lead: 10, want: 100, most: 1000, asked: -1, has: true, until: 0, acked: 0, now: 50, span: 10, then: 60, pot: 150},
		{lead: 10, want: 100, most: 1000, asked: -1, has: true, until: 60, acked: 49, now: 50, span: 10, then: 60, pot: 150},
		{lead: 10, want: 100, most: 1000, asked: -1, has: true, until: 60, acked: 50, now: 50, span: 10, then: 60, pot: 150},
		{lead: 10, want: 100, most: 1000, asked: -1, has: true, until: 60, acked: 51, now: 50, span: 11, then: 61, pot: 150},
		{lead: 10, want: 100, most: 1000, asked: -1, has: true, until: 60, acked: 139, now: 50, span: 99, then: 149, pot: 150},
		{lead: 10, want: 100, most: 1000, asked: -1, has: true, until: 60, acked: 140, now: 50, span: 100, then: 150, pot: 150},
		{lead: 10, want: 100, most: 1000, asked: -1, has: true, until: 60, acked: 141, now: 50, span: 100, then: 150, pot: 150},
		{lead: 10, want: 100, most: 1000, asked: -1, has: true, until: 60, acked: most, now: 50, span: 100, then: 150, pot: 150},
		{lead: 10, want: 100, most: 1000, asked: -1, has: true, until: 149, acked: 0, now: 50, span: 10, then: 149, pot: 150},
		{lead: 10, want: 100, most: 1000, asked: -1, has: true, until: 500, acked: 0, now: 50, span: 10, then: 500, pot: 500},
		{lead: 10, want: 100, most: 1000, asked: 5, has: true, until: 500, acked: 490, now: 50, span: 5, then: 500, pot: 500},
		{lead: 10, want: 100, most: 1000, asked: -1, now: 0, span: 10, then: 10, pot: 100},
		{lead: 10, want: 100, most: 1000, asked: -1, now: most - 11, span: 10, then: most - 1, pot: most},
		{lead: 10, want: 100, most: 1000, asked: -1, now: most - 9, span: 9, then: most, pot: most},
		{lead: 10, want: 100, most: 1000, asked: -1, now: most - 1, span: 1, then: most, pot: most},
		{lead: 10, want: 100, most: 1000, asked: -1, now: most, span: 0},
		{lead: 10, want: 100, most: 1000, asked: -1, has: true, until: most, acked: most, now: most, span: 0},
		{lead: 10, want: 100, most: 1000, asked: -1, has: true, until: most, acked: most, now: most - 1, span: 1, then: most, pot: most},
	} {
		checkSpan(t, c)
	}
}

// As Most is at most 2^30, so is T, and 2^32 - 1 is beyond each one.
func TestGreatestSpan(t *testing.T) {
	const top = 1 << 30
	for _, c := range []spanCase{
		{lead: top, want: top, most: top, asked: -1, now: 50, span: top, then: 50 + top, pot: 50 + top},
		{lead: top, want: 1, most: top, asked: greatest, now: 50, span: top, then: 50 + top, pot: 50 + top},
		{lead: top, want: 1, most: top, asked: top + 1, now: 50, span: top, then: 50 + top, pot: 50 + top},
		{lead: top, want: 1, most: top, asked: top - 1, now: 50, span: top - 1, then: 49 + top, pot: 49 + top},
		{lead: top - 1, want: top, most: top, asked: -1, now: 50, span: top - 1, then: 49 + top, pot: 50 + top},
		{lead: top, want: top, most: top, asked: greatest, has: true, until: most, acked: most, now: 50, span: top, then: most, pot: most},
		{lead: top, want: top, most: top, asked: -1, has: true, until: 0, acked: 1 << 33, now: 50, span: top, then: 50 + top, pot: 50 + top},
		{lead: top, want: top, most: top, asked: -1, now: most - top, span: top, then: most, pot: most},
		{lead: top, want: top, most: top, asked: -1, now: most - top + 1, span: top - 1, then: most, pot: most},
	} {
		checkSpan(t, c)
	}
}

// What was acknowledged for another client, or for a lease that is not Active,
// makes T no longer, and is not recorded.
func TestAckedOfOthers(t *testing.T) {
	for _, l := range []api.Lease{
		held(20, api.Active, "b", 20, 5000, 20, 10), held(20, api.Expired, "a", 20, 5000, 20, 10), held(20, api.Released, "a", 20, 5000, 20, 10),
	} {
		c := at(t, site(1), api.PartnerDown, says(3, "a", ofAddr(20)), l)
		c.entry = 20
		want := api.Answer{Send: true, Reply: c.with(5, bare(20, 0)), Change: true, Pot: 150}
		want.Lease = api.Lease{Addr: 20, Bind: 2, Client: "a", Until: 60, At: 50, Ver: 20}
		check(t, c, want)
		c.p = says(1, "a", ofAddr(20))
		check(t, c, api.Answer{Send: true, Reply: c.with(2, bare(20, 0))})
	}
}

// P20.1: Discover

// discoverCase is the address that a Discover is answered with, or 0 for none.
type discoverCase struct {
	name   string
	id     int
	state  int
	client string
	l      []api.Option
	ci     api.Addr
	want   api.Addr
}

// checkDiscover fails unless the cases are answered as they say, over those
// leases at that moment.
func checkDiscover(t *testing.T, now int, leases []api.Lease, cases []discoverCase) {
	t.Helper()
	for _, c := range cases {
		d := at(t, site(c.id), c.state, from(c.ci, says(1, c.client, c.l...)), leases...)
		d.now = now
		a := agree(t, d)
		if a.Send != (c.want != 0) || a.Reply.Yi != c.want || a.Send && kindOf(a) != "offer" || a.Change {
			t.Errorf("%s: %+v, want %d", c.name, a, c.want)
		}
	}
}

func TestDiscover(t *testing.T) {
	checkDiscover(t, 50, mixed(), []discoverCase{
		{"the smallest one of its own", 0, 1, "c", nil, 0, 20},
		{"the smallest one of its own", 1, 1, "c", nil, 0, 21},
		{"the smallest one of its own", 0, 2, "c", nil, 0, 20},
		{"the smallest one of its own", 1, 2, "c", nil, 0, 21},
		{"the smallest one of its own, as nothing is over", 0, 3, "c", nil, 0, 20},
		{"the smallest one of its own, as nothing is over", 1, 3, "c", nil, 0, 21},
		{"the client's smallest one", 0, 1, "a", nil, 0, 22},
		{"the client's smallest one", 1, 1, "a", nil, 0, 22},
		{"the client's smallest one", 1, 2, "a", nil, 0, 22},
		{"the client's smallest one", 0, 3, "a", nil, 0, 22},
		{"the client's one, not what it requests", 0, 1, "a", []api.Option{ofAddr(29)}, 0, 22},
		{"the client's smallest one, not the other one that it requests", 0, 1, "a", []api.Option{ofAddr(31)}, 0, 22},
		{"the client's one, not its Ci", 1, 1, "b", nil, 30, 23},
		{"what is requested", 0, 1, "c", []api.Option{ofAddr(29)}, 0, 29},
		{"what is requested", 1, 1, "c", []api.Option{ofAddr(30)}, 0, 30},
		{"what is requested by Ci", 0, 1, "c", nil, 29, 29},
		{"what is requested, not Ci", 0, 1, "c", []api.Option{ofAddr(20)}, 29, 20},
		{"Ci, as the option is too short", 0, 1, "c", []api.Option{{Code: 50, Data: []byte{0, 0, 20}}}, 29, 29},
		{"Ci, as the first option is too long", 0, 1, "c", []api.Option{{Code: 50, Data: []byte{0, 0, 0, 0, 20}}, ofAddr(20)}, 29, 29},
		{"what is requested first", 0, 1, "c", []api.Option{ofAddr(29), ofAddr(20)}, 0, 29},
		{"what is requested is the other server's", 0, 1, "c", []api.Option{ofAddr(30)}, 0, 20},
		{"what is requested is the other server's", 1, 1, "c", []api.Option{ofAddr(29)}, 0, 21},
		{"what is requested is another client's", 0, 1, "c", []api.Option{ofAddr(23)}, 0, 20},
		{"what is requested was another client's", 0, 1, "c", []api.Option{ofAddr(27)}, 0, 20},
		{"what is requested was another client's", 0, 1, "c", []api.Option{ofAddr(28)}, 0, 20},
		{"what is requested is abandoned", 0, 1, "c", []api.Option{ofAddr(26)}, 0, 20},
		{"what is requested is just below the pool", 0, 1, "c", []api.Option{ofAddr(19)}, 0, 20},
		{"what is requested is just above the pool", 0, 1, "c", []api.Option{ofAddr(32)}, 0, 20},
		{"what is requested is far outside of the pool", 0, 1, "c", []api.Option{ofAddr(greatest)}, 0, 20},
		{"what is requested is 0", 1, 1, "c", []api.Option{ofAddr(0)}, 0, 21},
		{"whichever server is named", 0, 1, "c", []api.Option{ofServer(8)}, 0, 20},
	})
}

// What a client had, or what nobody else has, is not a client's: so it comes only
// where it is the server's to give.
func TestDiscoverOfWhatAClientHad(t *testing.T) {
	checkDiscover(t, 50, []api.Lease{
		held(20, api.Expired, "c", 30, 300, 35, 20), held(21, api.Released, "c", 33, 400, 31, 21), bare(22, api.Abandoned),
		bare(25, api.Backup),
	}, []discoverCase{
		{"its own", 0, 1, "c", nil, 0, 23},
		{"its own", 0, 1, "c", []api.Option{ofAddr(20)}, 0, 23},
		{"its own", 0, 2, "c", []api.Option{ofAddr(21)}, 0, 23},
		{"its own", 1, 1, "c", []api.Option{ofAddr(21)}, 0, 25},
		{"its own, up to when Told and Guard and Lead are over", 1, 3, "c", []api.Option{ofAddr(21)}, 0, 25},
	})
}

// In PartnerDown, other addresses come once all is over.
func TestDiscoverInPartnerDown(t *testing.T) {
	leases := []api.Lease{
		bare(20, api.Abandoned), held(21, api.Active, "b", 80, 500, 70, 40), bare(22, api.Free), bare(23, api.Backup),
		held(24, api.Expired, "c", 30, 300, 60, 20), held(25, api.Released, "c", 33, 400, 31, 21), bare(26, api.Backup),
	}
	// Entered at 40: with Lead 10 and Guard 2, the free ones are over from 53 on, that
	// which was told of up to 60 from 73 on, and that of b from 93 on.
	checkDiscover(t, 52, leases, []discoverCase{
		{"its own", 0, 3, "c", nil, 0, 22},
		{"its own", 1, 3, "c", nil, 0, 23},
		{"its own, not what is not over", 1, 3, "c", []api.Option{ofAddr(22)}, 0, 23},
	})
	checkDiscover(t, 53, leases, []discoverCase{
		{"its own", 0, 3, "c", nil, 0, 22},
		{"what was the other server's", 1, 3, "c", nil, 0, 22},
		{"what was the other server's, but not in Interrupted", 1, 2, "c", nil, 0, 23},
		{"what was the other server's, but not in Normal", 1, 1, "c", nil, 0, 23},
		{"what is requested", 0, 3, "c", []api.Option{ofAddr(23)}, 0, 23},
		{"what is requested, and was Released", 0, 3, "c", []api.Option{ofAddr(25)}, 0, 25},
		{"its own, not what is not over", 0, 3, "c", []api.Option{ofAddr(24)}, 0, 22},
		{"its own, not what is abandoned", 0, 3, "c", []api.Option{ofAddr(20)}, 0, 22},
	})
	checkDiscover(t, 73, leases, []discoverCase{
		{"what is requested, and was Expired", 0, 3, "c", []api.Option{ofAddr(24)}, 0, 24},
		{"not another client's", 0, 3, "c", []api.Option{ofAddr(21)}, 0, 22},
	})
	checkDiscover(t, 92, leases, []discoverCase{
		{"not another client's", 0, 3, "c", []api.Option{ofAddr(21)}, 0, 22},
		{"not another client's", 0, 3, "c", nil, 0, 22},
	})
	checkDiscover(t, 93, leases, []discoverCase{
		{"another client's, which is over", 0, 3, "c", []api.Option{ofAddr(21)}, 0, 21},
		{"the smallest one, which is over", 1, 3, "c", nil, 0, 21},
		{"not in Interrupted", 0, 2, "c", []api.Option{ofAddr(21)}, 0, 22},
		{"the client's one", 0, 3, "b", []api.Option{ofAddr(22)}, 0, 21},
	})
}

// Where every address is taken, nothing is sent, but to those that have one.
func TestDiscoverWhereAllIsTaken(t *testing.T) {
	var leases []api.Lease
	for a := api.Addr(20); a <= 31; a++ {
		bind := []int{api.Active, api.Expired, api.Released, api.Abandoned}[a%4]
		l := held(a, bind, "b", 90, 95, 80, 40)
		if bind == api.Abandoned {
			l = bare(a, bind)
		}
		leases = append(leases, l)
	}
	for state := 1; state <= 3; state++ {
		for id := range 2 {
			checkDiscover(t, 50, leases, []discoverCase{
				{"nothing", id, state, "c", nil, 0, 0},
				{"nothing", id, state, "c", []api.Option{ofAddr(20)}, 0, 0},
				{"nothing", id, state, "c", []api.Option{ofAddr(99)}, 0, 0},
				{"the client's one", id, state, "b", nil, 0, 20},
			})
		}
	}
	// What is the other server's is taken, too.
	for id := range 2 {
		x := site(id)
		for i, bind := range []int{api.Backup, api.Free} {
			leases := make([]api.Lease, 0, 12)
			for a := api.Addr(20); a <= 31; a++ {
				leases = append(leases, bare(a, bind))
			}
			if a := agree(t, at(t, x, api.Normal, says(1, "c"), leases...)); a.Send != (i != id) {
				t.Errorf("server %d with all addresses bound to %d: %+v", id, bind, a)
			}
		}
	}
}

// A pool without an address has nothing to offer, and nothing is in it.
func TestPoolWithoutAddresses(t *testing.T) {
	for id := range 2 {
		x := site(id)
		x.Pool = nil
		for state := 1; state <= 3; state++ {
			for _, kind := range []int{1, 4, 7} {
				check(t, at(t, x, state, from(20, says(kind, "c", ofAddr(20)))), api.Answer{})
			}
			c := at(t, x, state, from(20, says(3, "c", ofAddr(20))))
			check(t, c, api.Answer{Send: true, Reply: c.reply(6)})
		}
	}
}

// clientIn is a client in a bucket.
func clientIn(t *testing.T, bucket int) string {
	t.Helper()
	for n := range 256 {
		if name := string([]byte{byte(n)}); balance.Bucket(name) == bucket {
			return name
		}
	}
	t.Fatalf("no name of one byte is in bucket %d", bucket)
	return ""
}

// In Normal, the server 0 answers the clients in the first buckets, and the server
// 1 the other ones; in each other state, both answer all.
func TestBuckets(t *testing.T) {
	for _, first := range []int{0, 1, 2, 100, 128, 255, 256} {
		for _, bucket := range []int{0, 1, first - 2, first - 1, first, first + 1, 254, 255} {
			if !within(bucket, 0, 255) {
				continue
			}
			for id := range 2 {
				for state := 1; state <= 3; state++ {
					x := site(id)
					x.First = first
					c := at(t, x, state, says(1, clientIn(t, bucket)), mixed()...)
					want := state != 1 || (bucket < first) == (id == 0)
					if a := agree(t, c); a.Send != want {
						t.Errorf("server %d in state %d with First %d, bucket %d: %+v", id, state, first, bucket, a)
					}
				}
			}
		}
	}
}

// The bucket is that of the client, not of its Hw; a Hw counts where it is the
// client. It counts though the client has an address.
func TestBucketsOfClients(t *testing.T) {
	x := site(0)
	x.First = 128
	low, high := clientIn(t, 127), clientIn(t, 128)
	for _, c := range []struct {
		hw, name string
		want     bool
	}{
		{high, low, true}, {low, high, false}, {low, "", true}, {high, "", false},
		{low, strings.Repeat(high, 33), true}, {high, strings.Repeat(low, 33), false},
	} {
		for _, l := range [][]api.Lease{nil, {held(22, api.Active, low, 60, 0, 0, 40), held(23, api.Active, high, 60, 0, 0, 40)}} {
			p := says(1, c.name)
			p.Hw = []byte(c.hw)
			if a := agree(t, at(t, x, api.Normal, p, l...)); a.Send != c.want {
				t.Errorf("Hw %q and name %q: %+v", c.hw, c.name, a)
			}
			// No other kind asks for the bucket.
			p.Options[0].Data = []byte{3}
			p.Options = append(p.Options, ofAddr(20))
			if a := agree(t, at(t, x, api.Normal, p, l...)); kindOf(a) != "ack" {
				t.Errorf("Hw %q and name %q: a Request is answered by %+v", c.hw, c.name, a)
			}
		}
	}
}

// P20.1: Request

// serverCase is options 54 of a Request, and whether the client chose another
// server by them, this one ("here"), or none.
type serverCase struct {
	chose string
	l     []api.Option
}

func serverCases() []serverCase {
	short, wrong := api.Option{Code: 54, Data: []byte{10, 0, 0}}, api.Option{Code: 54, Data: []byte{10, 0, 0, 1, 0}}
	return []serverCase{
		{"", nil},
		{"", []api.Option{{Code: 54}}},
		{"", []api.Option{{Code: 54, Data: []byte{1}}}},
		{"", []api.Option{{Code: 54, Data: []byte{10, 1}}}},
		{"", []api.Option{short}},
		{"", []api.Option{wrong}},
		{"", []api.Option{short, ofServer(8)}},
		{"", []api.Option{wrong, ofServer(here)}},
		{"here", []api.Option{ofServer(here)}},
		{"here", []api.Option{ofServer(here), ofServer(8)}},
		{"here", []api.Option{ofServer(here), short}},
		{"another", []api.Option{ofServer(8)}},
		{"another", []api.Option{ofServer(0)}},
		{"another", []api.Option{ofServer(here + 1)}},
		{"another", []api.Option{ofServer(here - 1)}},
		{"another", []api.Option{ofServer(0x0100000A)}},
		{"another", []api.Option{ofServer(greatest)}},
		{"another", []api.Option{ofServer(8), ofServer(here)}},
		{"another", []api.Option{ofServer(8), short}},
	}
}

// checkRequest fails unless Requests of the client a are answered by what want
// says of the address, for each way to name a server, and to name the address.
// "quiet" is a Nak to a client that chose this server, and nothing to others.
func checkRequest(t *testing.T, c call, want func(a api.Addr) string) {
	t.Helper()
	addrs := []api.Addr{0, 1, 19, 32, 99, greatest}
	for a := api.Addr(20); a <= 31; a++ {
		addrs = append(addrs, a)
	}
	for _, s := range serverCases() {
		for _, a := range addrs {
			expected := want(a)
			if expected == "quiet" {
				expected = map[string]string{"": "", "here": "nak"}[s.chose]
			}
			if s.chose == "another" {
				expected = ""
			}
			for _, p := range []api.Packet{from(22, says(3, "a", append(slices.Clone(s.l), ofAddr(a))...)), from(a, says(3, "a", s.l...))} {
				c.p = p
				got := agree(t, c)
				if kindOf(got) != expected || got.Change != (expected == "ack") {
					t.Errorf("%+v: %q, want %q", c, kindOf(got), expected)
				}
				if expected == "ack" && (got.Reply.Yi != a || got.Lease.Addr != a || got.Lease.Bind != 2 || got.Lease.Client != "a") {
					t.Errorf("%+v: %+v, want the address %d", c, got, a)
				}
			}
		}
	}
}

func TestRequest(t *testing.T) {
	for id := range 2 {
		own := func(a api.Addr) string {
			switch {
			case a == 22 || a == 31:
				return "ack" // the client's
			case a == 20 || a == 29:
				return []string{"ack", "quiet"}[id]
			case a == 21 || a == 30:
				return []string{"quiet", "ack"}[id]
			}
			return "nak"
		}
		for state := 1; state <= 3; state++ {
			c := at(t, site(id), state, api.Packet{}, mixed()...)
			checkRequest(t, c, own)
			c.now = 52
			checkRequest(t, c, own)
		}
		c := at(t, site(id), api.Interrupted, api.Packet{}, mixed()...)
		c.now = 500
		checkRequest(t, c, own)
		c.state = api.PartnerDown
		checkRequest(t, c, func(a api.Addr) string {
			if within(int(a), 20, 31) && a != 26 {
				return "ack"
			}
			return "nak"
		})
	}
}

// Where T is 0, nothing is promised, though the address is the client's, or may be
// given.
func TestRequestWithoutTime(t *testing.T) {
	for id := range 2 {
		x := site(id)
		x.Lead = 0
		for state := 1; state <= 3; state++ {
			c := at(t, x, state, api.Packet{}, mixed()...)
			checkRequest(t, c, func(a api.Addr) string {
				switch a {
				case 22, 31:
					return "ack" // it was acknowledged for some time on
				case 20, 21, 29, 30:
					return "quiet"
				}
				return "nak"
			})
			c.now = 65
			c.entry = 64
			checkRequest(t, c, func(a api.Addr) string {
				if a == 20 || a == 21 || a == 29 || a == 30 {
					return "quiet"
				}
				return "nak"
			})
		}
	}
}

// The address of a server may be any: what counts is that it is the same.
func TestRequestOfServersAtTheEdges(t *testing.T) {
	for _, server := range []api.Addr{0, 1, 1 << 31, greatest} {
		for _, chosen := range []api.Addr{0, 1, 1 << 31, greatest} {
			x := site(0)
			x.Server = server
			a := agree(t, at(t, x, api.Normal, says(3, "a", ofServer(chosen), ofAddr(20))))
			if a.Send != (server == chosen) || a.Change != (server == chosen) {
				t.Errorf("a Request to %d at %d: %+v", chosen, server, a)
			}
		}
	}
}

// What is recorded is the rules' Lease and Potential.
func TestRequestIsRecorded(t *testing.T) {
	x := site(0)
	cases := []struct {
		l   api.Lease
		to  api.Lease
		pot int
	}{
		{bare(20, api.Free), api.Lease{Addr: 20, Bind: 2, Client: "a", Until: 60, At: 50, Ver: 20}, 150},
		{held(20, api.Active, "a", 55, 52, 51, 45), api.Lease{Addr: 20, Bind: 2, Client: "a", Until: 62, Acked: 52, Told: 51, At: 50, Ver: 20}, 150},
		{held(20, api.Active, "a", 70, 52, 200, 45), api.Lease{Addr: 20, Bind: 2, Client: "a", Until: 70, Acked: 52, Told: 200, At: 50, Ver: 20}, 150},
		{held(20, api.Active, "a", 170, 3, 0, 60), api.Lease{Addr: 20, Bind: 2, Client: "a", Until: 170, Acked: 3, At: 50, Ver: 20}, 170},
	}
	for _, c := range cases {
		d := at(t, x, api.Normal, says(3, "a", ofAddr(20)), c.l)
		check(t, d, api.Answer{Send: true, Reply: d.with(5, c.l), Change: true, Lease: c.to, Pot: c.pot})
	}
}

// The name of a client that is recorded is its option 61, or its Hw.
func TestRequestOfClients(t *testing.T) {
	for _, name := range []string{"", "c", "\x00", strings.Repeat("x", 32), strings.Repeat("x", 33), strings.Repeat("y", 255)} {
		want := name
		if !within(len(name), 1, 32) {
			want = "\x01\x02\x03"
		}
		a := agree(t, at(t, site(0), api.Normal, says(3, name, ofAddr(20)), mixed()...))
		if !a.Change || a.Lease.Client != want {
			t.Errorf("the client %q: %+v", name, a)
		}
	}
	p := says(3, "b", ofClient("a"), ofAddr(22))
	if a := agree(t, at(t, site(0), api.Normal, p, mixed()...)); kindOf(a) != "nak" {
		t.Errorf("the client is the first one: %+v", a)
	}
	p = says(3, "a", ofClient("b"), ofAddr(22))
	if a := agree(t, at(t, site(0), api.Normal, p, mixed()...)); kindOf(a) != "ack" {
		t.Errorf("the client is the first one: %+v", a)
	}
}

// P20.1: Decline and Release

// allAddrs are the addresses of the pool, and some outside of it.
func allAddrs() []api.Addr {
	l := []api.Addr{0, 1, 19, 32, 99, greatest}
	for a := api.Addr(20); a <= 31; a++ {
		l = append(l, a)
	}
	return l
}

func TestDecline(t *testing.T) {
	for id := range 2 {
		for state := 1; state <= 3; state++ {
			x := site(id)
			x.First = 256 - x.First // the other server's bucket
			for _, a := range allAddrs() {
				for _, client := range []string{"a", "b", "c"} {
					var want api.Answer
					if client == "a" && (a == 22 || a == 31) || client == "b" && a == 23 {
						want = api.Answer{Change: true, Lease: api.Lease{Addr: a, Bind: 5, Ver: int(a)}}
					}
					check(t, at(t, x, state, from(22, says(4, client, ofAddr(a))), mixed()...), want)
					check(t, at(t, x, state, from(a, says(4, client, ofServer(8))), mixed()...), want)
				}
			}
		}
	}
}

// A Release is of Ci, whatever is requested.
func TestRelease(t *testing.T) {
	for id := range 2 {
		for state := 1; state <= 3; state++ {
			x := site(id)
			x.First = 256 - x.First
			for _, a := range allAddrs() {
				for _, client := range []string{"a", "b", "c"} {
					var want api.Answer
					if client == "a" && (a == 22 || a == 31) || client == "b" && a == 23 {
						l := mixed()[a-20]
						l.Bind, l.At = 4, 50
						want = api.Answer{Change: true, Lease: l}
					}
					check(t, at(t, x, state, from(a, says(7, client)), mixed()...), want)
					check(t, at(t, x, state, from(a, says(7, client, ofAddr(22), ofServer(8))), mixed()...), want)
				}
			}
		}
	}
	for _, now := range []int{0, 1, 39, most} {
		c := at(t, site(0), api.Normal, from(22, says(7, "a")), mixed()...)
		c.now = now
		check(t, c, api.Answer{Change: true, Lease: held(22, 4, "a", 60, 55, 58, now)})
	}
}

// P20.1: all other kinds

func TestOtherKinds(t *testing.T) {
	for kind := range 256 {
		if slices.Contains([]int{1, 3, 4, 7, 8}, kind) {
			continue
		}
		for id := range 2 {
			for state := 1; state <= 3; state++ {
				check(t, at(t, site(id), state, from(22, says(kind, "a", ofAddr(22))), mixed()...), api.Answer{})
			}
		}
	}
}

// A packet without a kind of one byte has none; the first one counts.
func TestPacketsWithoutAKind(t *testing.T) {
	for _, l := range [][]api.Option{
		nil,
		{{Code: 53}},
		{{Code: 53, Data: []byte{0, 8}}},
		{{Code: 53, Data: []byte{8, 0}}},
		{{Code: 53, Data: []byte{0, 0, 0, 8}}},
		{{Code: 53}, {Code: 53, Data: []byte{8}}},
		{{Code: 53, Data: []byte{2}}, {Code: 53, Data: []byte{8}}},
	} {
		p := says(8, "a")
		p.Options = l
		check(t, at(t, site(0), api.Normal, p, mixed()...), api.Answer{})
	}
	p := says(8, "a", api.Option{Code: 53, Data: []byte{3}})
	if a := agree(t, at(t, site(0), api.Normal, p, mixed()...)); kindOf(a) != "ack" || a.Change {
		t.Errorf("an Inform, and then a Request: %+v", a)
	}
}

// The chapter's example, and that of the whole document.
func TestExamples(t *testing.T) {
	a := agree(t, at(t, site(0), api.Normal, says(1, "new"), bare(20, api.Backup), held(21, api.Active, "b", 60, 0, 0, 40)))
	if kindOf(a) != "offer" || a.Reply.Yi != 22 {
		t.Errorf("a new client: %+v", a)
	}
	for _, c := range ordinary(t) {
		c.state = api.Startup
		check(t, c, api.Answer{})
	}
}

// R3: what is returned shares no memory with the arguments, nor within itself.
func TestAnswersAreNewMemory(t *testing.T) {
	for _, c := range ordinary(t) {
		a := agree(t, c)
		if !a.Send {
			continue
		}
		want := copied(a.Reply)
		lists := []*[]byte{&a.Reply.Hw}
		for i := range a.Reply.Options {
			lists = append(lists, &a.Reply.Options[i].Data)
		}
		for i, l := range lists {
			was := slices.Clone(*l)
			for j := range *l {
				(*l)[j] ^= 255
			}
			_ = append(*l, 1, 2, 3, 4, 5, 6, 7, 8)
			for j, m := range lists {
				others := append([][]byte{want.Hw}, datas(want.Options)...)
				if i != j && !bytes.Equal(*m, others[j]) {
					t.Fatalf("%+v: the lists %d and %d of %+v share memory", c, i, j, a)
				}
			}
			copy(*l, was)
		}
	}
}

// datas is the Data of options.
func datas(l []api.Option) [][]byte {
	var out [][]byte
	for _, o := range l {
		out = append(out, o.Data)
	}
	return out
}

// P20.1 and P1: random calls

// anyNumber is a random number: one of those, or one next to them, or any.
func anyNumber(r *rand.Rand, l ...int) int {
	if r.Intn(20) == 0 {
		return int(r.Uint64())
	}
	return l[r.Intn(len(l))] + r.Intn(3) - 1
}

// anySite is a random site, most often a valid one.
func anySite(r *rand.Rand) api.Site {
	floats := []float64{nan, infinite, -infinite, 0, minusZero, 0.5, 0.875, 1, 2, -1, r.Float64()}
	x := site(r.Intn(2))
	x.Server = []api.Addr{here, 0, greatest}[r.Intn(3)]
	x.Lead, x.Guard = r.Intn(30), r.Intn(5)
	x.Most = 1 + r.Intn(200)
	x.Want = 1 + r.Intn(x.Most)
	x.First = r.Intn(257)
	x.Renew, x.Rebind = floats[r.Intn(len(floats))], floats[r.Intn(len(floats))]
	x.Pool = []api.Range{{Low: 25, High: 31}, {Low: 20, High: api.Addr(20 + r.Intn(8))}}
	switch r.Intn(12) {
	case 0:
		x.Lead = anyNumber(r, 0, 1<<30)
	case 1:
		x.Guard = anyNumber(r, 0, 1<<30)
	case 2:
		x.Want, x.Most = anyNumber(r, 1, x.Most, 1<<30), anyNumber(r, 1, x.Want, 1<<30)
	case 3:
		x.Id, x.First, x.Room = anyNumber(r, 0, 1), anyNumber(r, 0, 256), anyNumber(r, 1, 1<<20)
	}
	return x
}

// anyLease is a random valid lease of an address.
func anyLease(r *rand.Rand, a api.Addr, base int) api.Lease {
	time := func() int { return least(base+r.Intn(80), most) }
	bind := []int{0, 1, 2, 2, 2, 3, 4, 5}[r.Intn(8)]
	if !within(bind, 2, 4) {
		return api.Lease{Addr: a, Bind: bind, Ver: r.Intn(9)}
	}
	return api.Lease{
		Addr: a, Bind: bind, Client: []string{"a", "b", "c", "\x01"}[r.Intn(4)],
		Until: time(), Acked: time(), Told: time(), At: time(), Ver: r.Intn(9),
	}
}

// anyPacket is a random packet, most often a valid one of a client.
func anyPacket(r *rand.Rand) api.Packet {
	addrs := []api.Addr{0, 19, 20, 21, 22, 23, 24, 25, 26, 27, 28, 29, 30, 31, 32, greatest}
	one := func() api.Addr { return addrs[r.Intn(len(addrs))] }
	kinds := []int{1, 1, 1, 3, 3, 3, 3, 4, 4, 7, 7, 7, 8, []int{0, 2, 5, 6, 9, 255}[r.Intn(6)]}
	p := says(kinds[r.Intn(len(kinds))], []string{"a", "b", "c", ""}[r.Intn(4)])
	p.Xid, p.Secs, p.Flags, p.Gi, p.Hw = r.Uint32(), r.Intn(65536), r.Intn(65536), one(), []byte{byte(1 + r.Intn(2))}
	if r.Intn(2) == 0 {
		p.Ci = one()
	}
	more := []api.Option{
		ofAddr(one()), ofAddr(one()), ofTime(r.Intn(250)), ofTime(greatest - r.Intn(2)), ofServer(here), ofServer([]api.Addr{0, here, greatest}[r.Intn(3)]),
		{Code: 50, Data: make([]byte, r.Intn(6))}, {Code: 54, Data: make([]byte, r.Intn(6))}, {Code: 51, Data: make([]byte, r.Intn(6))}, {Code: 1},
	}
	for range r.Intn(5) {
		p.Options = append(p.Options, more[r.Intn(len(more))])
	}
	r.Shuffle(len(p.Options), func(i, j int) { p.Options[i], p.Options[j] = p.Options[j], p.Options[i] })
	switch r.Intn(20) {
	case 0:
		p.Op = anyNumber(r, 1)
	case 1:
		p.Secs = anyNumber(r, 0, 65535)
	case 2:
		p.Hw = make([]byte, r.Intn(19))
	}
	return copied(p)
}

// anyCall is a random call, most often one that is valid.
func anyCall(t *testing.T, r *rand.Rand) call {
	t.Helper()
	c := call{x: anySite(r), state: 1 + r.Intn(3), p: anyPacket(r)}
	base := []int{0, 0, 1000, most - 90}[r.Intn(4)]
	c.t = tableOf(t, c.x)
	for _, l := range c.t.All() {
		if r.Intn(5) != 0 {
			c.t.Set(anyLease(r, l.Addr, base))
		}
	}
	// Some clients ask for what they have, or had.
	if l := c.t.All(); len(l) > 0 && r.Intn(4) == 0 {
		one := l[r.Intn(len(l))]
		c.p.Ci = one.Addr
		c.p.Options = append([]api.Option{ofClient(one.Client), ofAddr(one.Addr)}[:1+r.Intn(2)], c.p.Options...)
	}
	c.now, c.entry = least(base+r.Intn(150), most), base+r.Intn(100)
	switch r.Intn(20) {
	case 0:
		c.now = anyNumber(r, 0, most)
	case 1:
		c.entry = anyNumber(r, 0, most)
	case 2:
		c.state = anyNumber(r, 0, 3, 8)
	case 3:
		c.t = nil
	}
	return c
}

func TestRandomAgainstTheWords(t *testing.T) {
	r := rand.New(rand.NewSource(1))
	seen := map[string]int{}
	for range 40000 {
		a := agree(t, anyCall(t, r))
		seen[kindOf(a)+strconv.FormatBool(a.Change)]++
	}
	for _, what := range []string{"offerfalse", "acktrue", "ackfalse", "nakfalse", "true", "false"} {
		if seen[what] < 300 {
			t.Errorf("only %d answers were of %q", seen[what], what)
		}
	}
}
