package store_test

import (
	"fmt"
	"math"
	"math/rand"
	"slices"
	"strings"
	"testing"

	"lessor/api"
	"lessor/disk"
	"lessor/store"
	"lessor/wal"
)

const (
	mostTime = 1 << 40 // the last moment
	mostLife = 1 << 29 // the last life
	top      = 1<<32 - 1
)

// number is n as so many bytes, the most significant one first.
func number(n, bytes int) string {
	b := make([]byte, bytes)
	for i := range b {
		b[bytes-1-i] = byte(n >> (8 * i))
	}
	return string(b)
}

// code is the encoding of l by the words of the lease's chapter, also where l
// is not valid.
func code(l api.Lease) string {
	return number(int(l.Addr), 4) + number(l.Bind, 1) + number(l.Until, 6) + number(l.Acked, 6) + number(l.Told, 6) +
		number(l.At, 6) + number(l.Ver, 6) + number(len(l.Client), 1) + l.Client
}

// The three kinds of records.
func ofLease(l api.Lease) string { return "L" + code(l) }
func ofState(state int) string   { return "S" + number(state, 1) }
func ofLife(life int) string     { return "F" + number(life, 4) }

// frames is records as a disk has them, by the words of the frame's chapter.
func frames(records ...string) string {
	var b strings.Builder
	for _, record := range records {
		b.WriteString(number(len(record), 2) + record + "\x5a")
	}
	return b.String()
}

// found is the records of the frames at the beginning of b, as long as a
// complete one follows.
func found(b string) []string {
	var l []string
	for len(b) >= 2 {
		many := int(b[0])*256 + int(b[1])
		if many < 1 || many > 1000 || many+3 > len(b) || b[2+many] != 90 {
			break
		}
		l = append(l, b[2:2+many])
		b = b[many+3:]
	}
	return l
}

// valid is whether l is valid, by the words of the lease's chapter.
func valid(l api.Lease) bool {
	for _, n := range []int{l.Until, l.Acked, l.Told, l.At, l.Ver} {
		if n < 0 || n > mostTime {
			return false
		}
	}
	if l.Bind >= 2 && l.Bind <= 4 {
		return len(l.Client) >= 1 && len(l.Client) <= 32
	}
	return l.Bind >= 0 && l.Bind <= 5 && l == api.Lease{Addr: l.Addr, Bind: l.Bind, Ver: l.Ver}
}

// known is what a store knows: the leases of its pool by increasing addresses, a
// state and a life.
type known struct {
	leases      []api.Lease
	state, life int
}

// span is the addresses from low to high.
func span(low, high uint64) []api.Addr {
	var l []api.Addr
	for a := low; a <= high; a++ {
		l = append(l, api.Addr(a))
	}
	return l
}

// nothing is what a new store knows.
func nothing(pool ...api.Range) known {
	var addrs []api.Addr
	for _, r := range pool {
		addrs = append(addrs, span(uint64(r.Low), uint64(r.High))...)
	}
	slices.Sort(addrs)
	var k known
	for _, a := range slices.Compact(addrs) {
		k.leases = append(k.leases, api.Lease{Addr: a})
	}
	return k
}

// place is where the address a is in k, or -1.
func (k known) place(a api.Addr) int {
	return slices.IndexFunc(k.leases, func(l api.Lease) bool { return l.Addr == a })
}

// with is k after setting these leases, which are valid, and of the pool.
func (k known) with(leases ...api.Lease) known {
	k.leases = slices.Clone(k.leases)
	for _, l := range leases {
		k.leases[k.place(l.Addr)] = l
	}
	return k
}

// apply is k after applying records, by the chapter's words.
func (k known) apply(records ...string) known {
	for _, record := range records {
		kind, body := record[0], record[1:]
		switch {
		case kind == 76:
			if l, is := lease(body); is && k.place(l.Addr) >= 0 {
				k = k.with(l)
			}
		case kind == 83 && len(body) == 1 && body[0] <= 8:
			k.state = int(body[0])
		case kind == 70 && len(body) == 4 && value(body) <= mostLife:
			k.life = value(body)
		}
	}
	return k
}

// value is the number that bytes are, the most significant one first.
func value(bytes string) int {
	n := 0
	for i := range len(bytes) {
		n = n*256 + int(bytes[i])
	}
	return n
}

// lease is the lease whose encoding is b, and whether there is one, which is valid.
func lease(b string) (api.Lease, bool) {
	if len(b) < 36 {
		return api.Lease{}, false
	}
	l := api.Lease{
		Addr: api.Addr(value(b[:4])), Bind: int(b[4]), Until: value(b[5:11]), Acked: value(b[11:17]), Told: value(b[17:23]),
		At: value(b[23:29]), Ver: value(b[29:35]), Client: b[36:],
	}
	return l, valid(l) && code(l) == b
}

// compact is the records of Compact, by the chapter's words.
func (k known) compact() []string {
	l := []string{ofState(k.state), ofLife(k.life)}
	for _, x := range k.leases {
		if x != (api.Lease{Addr: x.Addr}) {
			l = append(l, ofLease(x))
		}
	}
	return l
}

// equal is whether k is m.
func (k known) equal(m known) bool {
	return k.state == m.state && k.life == m.life && slices.Equal(k.leases, m.leases)
}

// String is what of k is not as in a new store.
func (k known) String() string {
	var l []api.Lease
	for _, x := range k.leases {
		if x != (api.Lease{Addr: x.Addr}) {
			l = append(l, x)
		}
	}
	return fmt.Sprintf("(of %d addresses %+v, state %d, life %d)", len(k.leases), l, k.state, k.life)
}

// made is a new disk with these bytes, the first of which are durable.
func made(t *testing.T, room int, durable, after string) *disk.Disk {
	t.Helper()
	d, e := disk.New(room)
	if e != api.OK {
		t.Fatalf("disk.New(%d): error %d", room, e)
	}
	if a, b := d.Swap([]byte(durable)), d.Append([]byte(after)); a != api.OK || b != api.OK {
		t.Fatalf("a disk with room for %d, with %d and %d bytes: errors %d, %d", room, len(durable), len(after), a, b)
	}
	return d
}

// opened is the store of a disk.
func opened(t *testing.T, d *disk.Disk, pool ...api.Range) *store.Store {
	t.Helper()
	s, e := store.Open(d, pool)
	if e != api.OK || s == nil {
		t.Fatalf("Open of a disk with %.80q, with the pool %v = %v, error %d", d.Read(), pool, s, e)
	}
	return s
}

// fresh is the store of a new disk, and the disk.
func fresh(t *testing.T, room int, pool ...api.Range) (*store.Store, *disk.Disk) {
	t.Helper()
	d := made(t, room, "", "")
	return opened(t, d, pool...), d
}

// is checks an error.
func is(t *testing.T, call string, e, want api.Errno) {
	t.Helper()
	if e != want {
		t.Fatalf("%s: error %d, want %d", call, e, want)
	}
}

// holds checks a disk's bytes, and how many of them are durable.
func holds(t *testing.T, d *disk.Disk, bytes string, lasts int) {
	t.Helper()
	if got := string(d.Read()); got != bytes {
		t.Fatalf("the disk has %d bytes %.400q, want %d bytes %.400q", len(got), got, len(bytes), bytes)
	}
	if got := d.Lasts(); got != lasts {
		t.Fatalf("of the disk's %d bytes, %d are durable, want %d", len(bytes), got, lasts)
	}
}

// told is what s knows.
func told(s *store.Store) known {
	return known{leases: s.Table().All(), state: s.State(), life: s.Life()}
}

// knows checks what s knows, and how many records its log has.
func knows(t *testing.T, s *store.Store, want known, count int) {
	t.Helper()
	if got := told(s); !got.equal(want) {
		t.Fatalf("the store knows %v, want %v", got, want)
	}
	if n := s.Len(); n != count {
		t.Fatalf("Len %d, want %d", n, count)
	}
}

// small is the pool of most tests.
func small() api.Range { return api.Range{Low: 1, High: 4} }

// active is an address that a client has.
func active(a api.Addr, client string, ver int) api.Lease {
	return api.Lease{Addr: a, Bind: api.Active, Client: client, Until: 9, Acked: 8, Told: 7, At: 6, Ver: ver}
}

// right is leases of a that are valid: of each Bind, and the greatest ones.
func right(a api.Addr) []api.Lease {
	long := strings.Repeat("x", 32)
	return []api.Lease{
		{Addr: a, Bind: api.Backup}, {Addr: a, Bind: api.Abandoned}, {Addr: a, Ver: 1}, {Addr: a},
		{Addr: a, Bind: api.Backup, Ver: mostTime}, {Addr: a, Bind: api.Abandoned, Ver: 258},
		{Addr: a, Bind: api.Active, Client: "a"}, {Addr: a, Bind: api.Expired, Client: "\x00", Until: 1}, {Addr: a, Bind: api.Released, Client: "\xff\x5a"},
		{Addr: a, Bind: api.Active, Client: long, Until: mostTime, Acked: mostTime, Told: mostTime, At: mostTime, Ver: mostTime},
		{Addr: a, Bind: api.Expired, Client: long[1:], Until: 1 << 8, Acked: 1 << 16, Told: 1 << 24, At: 1 << 32, Ver: mostTime - 1},
		active(a, "ab", 1<<40-2),
	}
}

// wrong is leases of a that are not valid, one for each reason.
func wrong(a api.Addr) []api.Lease {
	return []api.Lease{
		{Addr: a, Bind: 6}, {Addr: a, Bind: 255},
		{Addr: a, Client: "a"}, {Addr: a, Until: 1}, {Addr: a, Acked: 1}, {Addr: a, Told: 1}, {Addr: a, At: 1}, {Addr: a, Ver: mostTime + 1},
		{Addr: a, Bind: 1, Client: "a"}, {Addr: a, Bind: 1, Until: 1}, {Addr: a, Bind: 5, Client: "a"}, {Addr: a, Bind: 5, At: 1},
		{Addr: a, Bind: 2}, {Addr: a, Bind: 3}, {Addr: a, Bind: 4},
		{Addr: a, Bind: 2, Client: strings.Repeat("x", 33)}, {Addr: a, Bind: 4, Client: strings.Repeat("x", 200)},
		{Addr: a, Bind: 2, Client: "a", Until: mostTime + 1}, {Addr: a, Bind: 3, Client: "a", Acked: mostTime + 1},
		{Addr: a, Bind: 4, Client: "a", Told: mostTime + 1}, {Addr: a, Bind: 2, Client: "a", At: mostTime + 1},
		{Addr: a, Bind: 3, Client: "a", Ver: mostTime + 1}, {Addr: a, Bind: 2, Client: "a", Until: 1<<48 - 1},
	}
}

// wild is leases of a that are not valid, and have no encoding either.
func wild(a api.Addr) []api.Lease {
	return []api.Lease{
		{Addr: a, Bind: -1}, {Addr: a, Bind: 256}, {Addr: a, Bind: 258, Client: "a"}, {Addr: a, Bind: math.MinInt}, {Addr: a, Bind: math.MaxInt},
		{Addr: a, Ver: -1}, {Addr: a, Ver: math.MinInt}, {Addr: a, Ver: math.MaxInt}, {Addr: a, Ver: 1 << 48},
		{Addr: a, Bind: 2, Client: "a", Until: -1}, {Addr: a, Bind: 3, Client: "a", Acked: -1}, {Addr: a, Bind: 4, Client: "a", Told: math.MinInt},
		{Addr: a, Bind: 2, Client: "a", At: math.MaxInt}, {Addr: a, Bind: 2, Client: strings.Repeat("x", 256)},
		{Addr: a, Bind: 2, Client: strings.Repeat("x", 257)}, {Addr: a, Bind: 2, Client: strings.Repeat("x", 5000)},
	}
}

// foreign is addresses that are not in the small pool.
func foreign() []api.Addr {
	return []api.Addr{0, 5, 6, 255, 257, 1<<8 + 1, 1 << 16, 1 << 24, 1 << 31, 1<<31 + 1, top - 1, top}
}

// ignored is records that say nothing to a store of the small pool.
func ignored() []string {
	ordinary := code(active(2, "a", 3))
	l := []string{
		"L", "S", "F", "\x00", "\xff", "Z", "l", "s", "f", " ", "LSF",
		"S\x09", "S\x0a", "S\x10", "S\x7f", "S\x80", "S\xff", "S\x00\x00", "S\x05\x00", "S\x00\x05", "S\x05\x05", "S\x05\x5a", "S5",
		"S\x00\x00\x00\x05", "SS\x05", "\x05",
		"F" + number(mostLife+1, 4), "F" + number(mostLife+256, 4), "F" + number(1<<30, 4), "F" + number(1<<31, 4), "F" + number(1<<31+5, 4), "F" + number(top, 4),
		"F\x05", "F\x00\x05", "F\x00\x00\x05", "F\x00\x00\x00\x00\x05", "F\x05\x00\x00\x00\x00", "F\x00\x00\x00\x05\x00", "F\x00\x00\x00\x00\x00\x00\x00\x05",
		"FF\x00\x00\x00\x05", "\x00\x00\x00\x05",
		"L" + ordinary + "\x00", "L" + ordinary + "a", "L" + ordinary[1:], "L\x00" + ordinary, "LL" + ordinary, ordinary, "L" + ordinary + ordinary,
		"L" + code(api.Lease{Addr: 2, Bind: api.Backup}) + "\x00", "L" + code(api.Lease{Addr: 2, Bind: api.Backup})[:35] + "\x01",
		"L" + ordinary[:35] + "\x00a", "L" + ordinary[:35] + "\x02a", "L" + ordinary[:35] + "\x00",
		"L" + strings.Repeat("\x00", 999), "S" + strings.Repeat("\x01", 999), strings.Repeat("F", 1000),
	}
	for cut := range ordinary {
		l = append(l, "L"+ordinary[:cut])
	}
	for kind := range 256 {
		if kind != 'L' && kind != 'S' && kind != 'F' {
			first := string([]byte{byte(kind)})
			l = append(l, first, first+"\x05", first+"\x00\x00\x00\x05", first+ordinary)
		}
	}
	for _, kind := range []string{"S", "F"} {
		l = append(l, kind+ordinary)
	}
	for _, x := range wrong(2) {
		l = append(l, ofLease(x))
	}
	for _, a := range foreign() {
		for _, x := range right(a) {
			l = append(l, ofLease(x))
		}
		l = append(l, ofLease(wrong(a)[0]))
	}
	return append(l, "L"+number(5, 2), "L"+number(1, 4), "L\x02", "L\x01")
}

// pieces are bytes that are no complete frames.
func pieces() []string {
	l := []string{
		"\x00", "\x5a", "\x00\x02S", "\x00\x00\x5a", "\x00\x02S\x05\x5b", "\x03\xe9" + strings.Repeat("S", 1001) + "\x5a", "other bytes",
		"\x00\x00\x5a" + frames(ofState(5)), "\xff" + frames(ofState(5)), "\x00\x03" + ofState(5) + "\x5a" + frames(ofLife(5)),
	}
	for _, record := range []string{ofState(5), ofLife(5), ofLease(active(2, "a", 3))} {
		for cut := 1; cut < len(record)+3; cut++ {
			l = append(l, frames(record)[:cut])
		}
	}
	return l
}

// P13.1: Open

func TestOpenOfAnEmptyDisk(t *testing.T) {
	for _, pool := range [][]api.Range{
		nil, {}, {small()}, {{}}, {{Low: top, High: top}}, {{Low: 0, High: 255}}, {{Low: 9, High: 9}, {Low: 3, High: 4}, {Low: 4, High: 6}},
		{{Low: top - 127, High: top}, {Low: 0, High: 127}},
	} {
		for _, room := range []int{1, 5, 13, 14, 1000, api.MaxDisk} {
			for _, in := range []int{-1, 0, 1} {
				d := made(t, room, "", "")
				d.Fail(in)
				knows(t, opened(t, d, pool...), nothing(pool...), 0)
				holds(t, d, "", 0)
			}
		}
	}
}

func TestOpenAppliesAllKinds(t *testing.T) {
	for _, c := range []struct {
		records []string
		want    known
	}{
		{[]string{ofState(5)}, known{state: 5}},
		{[]string{ofLife(5)}, known{life: 5}},
		{[]string{ofState(5), ofLife(7)}, known{state: 5, life: 7}},
		{[]string{ofLife(7), ofState(5)}, known{state: 5, life: 7}},
		{[]string{"S\x05", "S\x03"}, known{state: 3}},
		{[]string{"S\x05", "S\x00"}, known{}},
		{[]string{"F\x00\x00\x00\x05", "F\x00\x00\x01\x04"}, known{life: 260}},
		{[]string{"F\x12\x34\x56\x78"}, known{life: 0x12345678}},
		{[]string{"F\x20\x00\x00\x00", "S\x08"}, known{state: 8, life: 1 << 29}},
		{[]string{"F\x20\x00\x00\x00", "F\x00\x00\x00\x00"}, known{}},
		{[]string{ofLife(9), ofLife(8), ofState(1), ofLife(7), ofState(2)}, known{state: 2, life: 7}},
	} {
		b := frames(c.records...)
		want := nothing(small())
		want.state, want.life = c.want.state, c.want.life
		for _, durable := range []int{0, len(b) / 2, len(b)} {
			d := made(t, 100, b[:durable], b[durable:])
			d.Fail(0) // as nothing is to be changed
			knows(t, opened(t, d, small()), want, len(c.records))
			holds(t, d, b, durable)
		}
	}
}

func TestOpenAppliesLeases(t *testing.T) {
	zero := nothing(small())
	for _, a := range span(1, 4) {
		for _, one := range right(a) {
			d := made(t, 500, frames(ofLease(one)), "")
			knows(t, opened(t, d, small()), zero.with(one), 1)
			for _, other := range right(2) {
				d = made(t, 500, frames(ofLease(one), ofState(3), ofLease(other)), frames(ofLife(6)))
				want := zero.with(one, other)
				want.state, want.life = 3, 6
				knows(t, opened(t, d, small()), want, 4)
			}
		}
	}
}

func TestOpenAppliesInOrder(t *testing.T) {
	var records []string
	want := nothing(small())
	for i := range 200 {
		l := active(api.Addr(1+i%4), "a", i)
		records = append(records, ofLease(l), ofState(i%9), ofLife(i*i))
		want = want.with(l)
		want.state, want.life = i%9, i*i
	}
	knows(t, opened(t, made(t, api.MaxDisk, frames(records...), ""), small()), want, 600)
}

func TestOpenOfEveryStateByte(t *testing.T) {
	for n := range 256 {
		want := nothing(small())
		want.state = 4
		if n <= 8 {
			want.state = n
		}
		d := made(t, 100, frames(ofState(4), "S"+number(n, 1)), "")
		knows(t, opened(t, d, small()), want, 2)
	}
}

func TestOpenOfLives(t *testing.T) {
	for _, n := range []int{
		0, 1, 127, 128, 255, 256, 65535, 65536, 1<<24 - 1, 1 << 24, mostLife - 1, mostLife,
		mostLife + 1, mostLife + 2, 1<<30 - 1, 1 << 30, 1<<31 - 1, 1 << 31, 1<<31 + 1, top,
	} {
		want := nothing(small())
		want.life = 4
		if n <= mostLife {
			want.life = n
		}
		d := made(t, 100, frames(ofLife(4), "F"+number(n, 4)), "")
		knows(t, opened(t, d, small()), want, 2)
	}
}

func TestOpenPassesOverOtherRecords(t *testing.T) {
	one, other := active(2, "one", 1), api.Lease{Addr: 3, Bind: api.Backup, Ver: 2}
	zero := nothing(small())
	before := zero.with(one)
	before.state, before.life = 2, 3
	after := before.with(other)
	after.state, after.life = 4, 6
	for _, record := range ignored() {
		ahead, behind := []string{ofLease(one), ofState(2), ofLife(3)}, []string{ofLife(6), ofLease(other), ofState(4)}
		for _, c := range []struct {
			records []string
			want    known
		}{
			{[]string{record}, zero},
			{[]string{record, record}, zero},
			{append([]string{record}, ahead...), before},
			{append(slices.Clone(ahead), record), before},
			{slices.Concat(ahead, []string{record}, behind), after},
			{slices.Concat(ahead, []string{record, record}, behind, []string{record}), after},
		} {
			b := frames(c.records...)
			d := made(t, len(b), b, "")
			s := opened(t, d, small())
			if got := told(s); !got.equal(c.want) {
				t.Fatalf("with the record %.60q, Open knows %v, want %v", record, got, c.want)
			}
			knows(t, s, c.want, len(c.records))
			holds(t, d, b, len(b))
		}
	}
}

// TestOpenWithTheAddress0: what is no encoding is not taken for the lease whose
// every field is zero.
func TestOpenWithTheAddress0(t *testing.T) {
	pool := api.Range{Low: 0, High: 3}
	want := nothing(pool).with(active(0, "a", 1))
	for _, body := range []string{"", "\x00", code(api.Lease{})[:35], code(api.Lease{}) + "\x00", code(api.Lease{Client: "a"}), code(api.Lease{Bind: 6})} {
		d := made(t, 200, frames(ofLease(active(0, "a", 1)), "L"+body), "")
		knows(t, opened(t, d, pool), want, 2)
	}
	d := made(t, 200, frames(ofLease(active(0, "a", 1)), ofLease(api.Lease{})), "")
	knows(t, opened(t, d, pool), nothing(pool), 2)
}

// TestOpenOfEmptyRecords: no log has one, so the frames end ahead of it.
func TestOpenOfEmptyRecords(t *testing.T) {
	d := made(t, 100, frames(ofState(5))+"\x00\x00\x5a"+frames(ofState(6)), "")
	want := nothing(small())
	want.state = 5
	knows(t, opened(t, d, small()), want, 1)
	holds(t, d, frames(ofState(5)), 5)
	l, _ := wal.Open(d)
	is(t, "wal.Append(nil)", l.Append(nil), api.ErrArg)
}

func TestOpenTakesOffWhatIsNoFrame(t *testing.T) {
	for _, records := range [][]string{nil, {ofState(1)}, {ofLease(active(3, "b", 1)), "other", ofLife(9), ofState(1)}} {
		for _, piece := range pieces() {
			whole := frames(records...)
			want := nothing(small()).apply(records...)
			for _, durable := range []int{0, len(whole), len(whole) + len(piece)} {
				b := whole + piece
				d := made(t, 2000, b[:durable], b[durable:])
				s := opened(t, d, small())
				knows(t, s, want, len(records))
				holds(t, d, whole, len(whole))
				// What is appended behind it is found again.
				is(t, "SetLife", s.SetLife(77), api.OK)
				d.Crash(1000)
				after := want
				after.life = 77
				knows(t, opened(t, d, small()), after, len(records)+1)
			}
		}
	}
}

func TestOpenRefuses(t *testing.T) {
	many := []api.Range{{Low: 1, High: 200}, {Low: 300, High: 356}}
	turned := []api.Range{{Low: 1, High: 2}, {Low: 5, High: 4}}
	bytes := frames(ofState(1)) + "\x00"
	failing := func() *disk.Disk {
		d := made(t, 100, bytes, "")
		d.Fail(0)
		return d
	}
	for _, c := range []struct {
		what string
		d    *disk.Disk
		pool []api.Range
		want api.Errno
	}{
		{"no disk", nil, []api.Range{small()}, api.ErrArg},
		{"no disk, a nil pool", nil, nil, api.ErrArg},
		{"257 addresses", made(t, 100, bytes, ""), many, api.ErrFull},
		{"all addresses", made(t, 100, bytes, ""), []api.Range{{Low: 0, High: top}}, api.ErrFull},
		{"High below Low", made(t, 100, bytes, ""), turned, api.ErrArg},
		{"a disk that fails", failing(), []api.Range{small()}, api.ErrDown},
		{"a disk that fails, a nil pool", failing(), nil, api.ErrDown},
		{"no disk, 257 addresses", nil, many, api.ErrFull},
		{"no disk, High below Low", nil, turned, api.ErrArg},
		{"a disk that fails, 257 addresses", failing(), many, api.ErrFull},
		{"a disk that fails, High below Low", failing(), turned, api.ErrArg},
		{"High below Low, 257 addresses", failing(), append(turned, many...), api.ErrArg},
	} {
		for range 2 {
			if s, e := store.Open(c.d, c.pool); s != nil || e != c.want {
				t.Errorf("%s: Open = %v, error %d, want nothing, and error %d", c.what, s, e, c.want)
			}
			if c.d != nil {
				holds(t, c.d, bytes, len(bytes))
			}
		}
	}
}

// TestOpenThatIsRefusedIsNoChange: the pool's error comes first, so the disk is
// not asked.
func TestOpenThatIsRefusedIsNoChange(t *testing.T) {
	d := made(t, 100, frames(ofState(1))+"\x00", "")
	d.Fail(1)
	for range 3 {
		store.Open(d, []api.Range{{Low: 1, High: 257}})
		store.Open(d, []api.Range{{Low: 2, High: 1}})
	}
	s := opened(t, d, small())
	holds(t, d, frames(ofState(1)), 5)
	is(t, "Sync", s.Sync(), api.ErrDown)
}

func TestOpenAgain(t *testing.T) {
	s, d := fresh(t, 1000, small())
	l := active(2, "a", 1)
	is(t, "Put", s.Put(l), api.OK)
	is(t, "SetState", s.SetState(6), api.OK)
	is(t, "SetLife", s.SetLife(1000), api.OK)
	want := nothing(small()).with(l)
	want.state, want.life = 6, 1000
	for range 3 {
		knows(t, opened(t, d, small()), want, 3)
	}
	knows(t, opened(t, d, api.Range{Low: 4, High: 4}, api.Range{Low: 2, High: 3}, api.Range{Low: 1, High: 3}), want, 3)
}

func TestOpenAgainWithAnotherPool(t *testing.T) {
	s, d := fresh(t, 1000, small())
	for _, l := range []api.Lease{active(1, "a", 1), active(2, "b", 2), {Addr: 3, Bind: api.Backup}} {
		is(t, "Put", s.Put(l), api.OK)
	}
	is(t, "SetState", s.SetState(7), api.OK)
	other := api.Range{Low: 2, High: 2}
	beside := api.Range{Low: 9, High: 12}
	want := nothing(other, beside).with(active(2, "b", 2))
	want.state = 7
	x := opened(t, d, beside, other)
	knows(t, x, want, 4)
	is(t, "Put of an address of the first pool", x.Put(active(1, "c", 9)), api.ErrNone)
	is(t, "Put of an address of the other pool", x.Put(active(10, "d", 9)), api.OK)
	// Nothing is lost of what the other pool does not have, up to Compact.
	first := nothing(small()).with(active(1, "a", 1), active(2, "b", 2), api.Lease{Addr: 3, Bind: api.Backup})
	first.state = 7
	knows(t, opened(t, d, small()), first, 5)
	none := nothing()
	none.state = 7
	knows(t, opened(t, d), none, 5)
	want = want.with(active(10, "d", 9))
	knows(t, opened(t, d, other, beside), want, 5)
	is(t, "Compact", x.Compact(), api.OK)
	knows(t, x, want, 4)
	first = nothing(small()).with(active(2, "b", 2))
	first.state = 7
	knows(t, opened(t, d, small()), first, 4)
}

func TestStoreOfNoAddress(t *testing.T) {
	for _, pool := range [][]api.Range{nil, {}} {
		s, d := fresh(t, 100, pool...)
		is(t, "Put", s.Put(api.Lease{}), api.ErrNone)
		is(t, "Put", s.Put(active(1, "a", 1)), api.ErrNone)
		is(t, "Put", s.Put(api.Lease{Bind: 6}), api.ErrArg)
		is(t, "SetState", s.SetState(3), api.OK)
		is(t, "SetLife", s.SetLife(4), api.OK)
		knows(t, s, known{state: 3, life: 4}, 2)
		is(t, "Compact", s.Compact(), api.OK)
		holds(t, d, frames(ofState(3), ofLife(4)), 13)
		knows(t, opened(t, d, pool...), known{state: 3, life: 4}, 2)
	}
}

// P13.1: Put

func TestPut(t *testing.T) {
	s, d := fresh(t, 100000, small())
	want, bytes, count := nothing(small()), "", 0
	for _, a := range []api.Addr{2, 1, 4, 3, 2} {
		for _, l := range right(a) {
			is(t, fmt.Sprintf("Put(%+v)", l), s.Put(l), api.OK)
			want, bytes, count = want.with(l), bytes+frames(ofLease(l)), count+1
			// It is not durable yet.
			holds(t, d, bytes, 0)
			knows(t, s, want, count)
			if got, e := s.Table().Get(a); got != l || e != api.OK {
				t.Fatalf("Get(%d) = %+v, %d, want %+v", a, got, e, l)
			}
		}
	}
	knows(t, opened(t, d, small()), want, count)
}

func TestPutOfTheSameIsARecordToo(t *testing.T) {
	s, d := fresh(t, 1000, small())
	l := active(2, "a", 1)
	for i := range 3 {
		is(t, "Put", s.Put(l), api.OK)
		knows(t, s, nothing(small()).with(l), i+1)
	}
	is(t, "Put as it is in a new store", s.Put(api.Lease{Addr: 3}), api.OK)
	holds(t, d, frames(ofLease(l), ofLease(l), ofLease(l), ofLease(api.Lease{Addr: 3})), 0)
}

func TestPutAtTheEndsOfAddresses(t *testing.T) {
	pool := []api.Range{{Low: top, High: top}, {}}
	s, d := fresh(t, 10000, pool...)
	want := nothing(pool...)
	for i, l := range right(0) {
		other := right(top)[len(right(top))-1-i]
		is(t, "Put", s.Put(l), api.OK)
		is(t, "Put", s.Put(other), api.OK)
		want = want.with(l, other)
		knows(t, s, want, 2*i+2)
		knows(t, opened(t, d, pool...), want, 2*i+2)
	}
	is(t, "Put", s.Put(api.Lease{Addr: 1}), api.ErrNone)
	is(t, "Put", s.Put(api.Lease{Addr: top - 1}), api.ErrNone)
}

func TestPutRefuses(t *testing.T) {
	for _, in := range []int{-1, 0, 1} {
		for _, room := range []int{5, 1000} {
			s, d := fresh(t, room, small())
			is(t, "SetState", s.SetState(5), api.OK)
			want := nothing(small())
			want.state = 5
			d.Fail(in)
			for _, a := range append(foreign(), 1, 2, 4) {
				for _, l := range append(wrong(a), wild(a)...) {
					is(t, fmt.Sprintf("Put(%.200v)", l), s.Put(l), api.ErrArg)
				}
			}
			for _, a := range foreign() {
				for _, l := range right(a) {
					is(t, fmt.Sprintf("Put(%+v)", l), s.Put(l), api.ErrNone)
				}
			}
			knows(t, s, want, 1)
			holds(t, d, frames(ofState(5)), 0)
			if in == 1 {
				// None of them was a change of the disk's.
				is(t, "Sync", s.Sync(), api.OK)
				is(t, "Sync", s.Sync(), api.ErrDown)
			}
		}
	}
}

// TestWhatIsNotAppendedIsNotApplied: on a disk that is full, or fails.
func TestWhatIsNotAppendedIsNotApplied(t *testing.T) {
	calls := []struct {
		record string
		do     func(s *store.Store) api.Errno
	}{
		{ofLease(active(2, "abc", 9)), func(s *store.Store) api.Errno { return s.Put(active(2, "abc", 9)) }},
		{ofLease(api.Lease{Addr: 3, Ver: 1}), func(s *store.Store) api.Errno { return s.Put(api.Lease{Addr: 3, Ver: 1}) }},
		{ofLease(api.Lease{Addr: 2}), func(s *store.Store) api.Errno { return s.Put(api.Lease{Addr: 2}) }},
		{ofState(8), func(s *store.Store) api.Errno { return s.SetState(8) }},
		{ofState(0), func(s *store.Store) api.Errno { return s.SetState(0) }},
		{ofLife(mostLife), func(s *store.Store) api.Errno { return s.SetLife(mostLife) }},
		{ofLife(0), func(s *store.Store) api.Errno { return s.SetLife(0) }},
	}
	ahead := []string{ofState(3), ofLease(active(2, "a", 1)), ofLife(4)}
	whole := frames(ahead...)
	before := nothing(small()).apply(ahead...)
	for _, c := range calls {
		after := before.apply(c.record)
		for more := -len(c.record) - 3; more <= 1; more++ {
			for _, in := range []int{-1, 0, 1} {
				d := made(t, len(whole)+len(c.record)+3+more, whole[:5], whole[5:])
				s := opened(t, d, small())
				d.Fail(in)
				want, to, bytes, count := api.OK, after, whole+frames(c.record), 4
				if more < 0 {
					want = api.ErrFull
				}
				if in == 0 {
					want = api.ErrDown
				}
				if want != api.OK {
					to, bytes, count = before, whole, 3
				}
				is(t, fmt.Sprintf("%q with %d bytes of room more, where the disk fails in %d", c.record, more, in), c.do(s), want)
				knows(t, s, to, count)
				holds(t, d, bytes, 5)
				if in == 1 {
					// That was one change, also if there was no room.
					is(t, "the next one", c.do(s), api.ErrDown)
					knows(t, s, to, count)
				}
				d.Crash(len(bytes))
				knows(t, opened(t, d, small()), to, count)
			}
		}
	}
}

// P13.1: SetState and SetLife

func TestSetState(t *testing.T) {
	s, d := fresh(t, 1000, small())
	want, bytes := nothing(small()), ""
	for i, state := range []int{1, 2, 3, 4, 5, 6, 7, 8, 0, 0, 8, 8, 1, 0} {
		is(t, fmt.Sprintf("SetState(%d)", state), s.SetState(state), api.OK)
		want.state, bytes = state, bytes+"\x00\x02S"+string(rune(state))+"\x5a"
		holds(t, d, bytes, 0)
		knows(t, s, want, i+1)
		knows(t, opened(t, d, small()), want, i+1)
	}
}

func TestSetStateRefuses(t *testing.T) {
	for _, in := range []int{-1, 0} {
		s, d := fresh(t, 5, small())
		is(t, "SetState", s.SetState(3), api.OK)
		d.Fail(in)
		want := nothing(small())
		want.state = 3
		for _, state := range []int{-1, 9, 10, -2, 83, 255, 256, 257, -248, 1 << 31, 1 << 32, 1<<32 + 1, math.MinInt, math.MinInt + 1, math.MaxInt} {
			is(t, fmt.Sprintf("SetState(%d)", state), s.SetState(state), api.ErrArg)
			knows(t, s, want, 1)
			holds(t, d, frames(ofState(3)), 0)
		}
	}
}

func TestSetLife(t *testing.T) {
	s, d := fresh(t, 1000, small())
	want, bytes := nothing(small()), ""
	for i, c := range []struct {
		life  int
		bytes string
	}{
		{1, "\x00\x00\x00\x01"}, {0, "\x00\x00\x00\x00"}, {255, "\x00\x00\x00\xff"}, {256, "\x00\x00\x01\x00"}, {0x10203, "\x00\x01\x02\x03"},
		{0x1a2b3c4d, "\x1a\x2b\x3c\x4d"}, {1<<29 - 1, "\x1f\xff\xff\xff"}, {1 << 29, "\x20\x00\x00\x00"}, {1 << 29, "\x20\x00\x00\x00"}, {0, "\x00\x00\x00\x00"},
	} {
		is(t, fmt.Sprintf("SetLife(%d)", c.life), s.SetLife(c.life), api.OK)
		want.life, bytes = c.life, bytes+"\x00\x05F"+c.bytes+"\x5a"
		holds(t, d, bytes, 0)
		knows(t, s, want, i+1)
		knows(t, opened(t, d, small()), want, i+1)
	}
}

func TestSetLifeRefuses(t *testing.T) {
	for _, in := range []int{-1, 0} {
		s, d := fresh(t, 8, small())
		is(t, "SetLife", s.SetLife(3), api.OK)
		d.Fail(in)
		want := nothing(small())
		want.life = 3
		for _, life := range []int{-1, 1<<29 + 1, -2, 1 << 30, 1 << 31, 1<<31 + 1, top, 1 << 32, 1<<32 + 1, -1 << 32, math.MinInt, math.MinInt + 1, math.MaxInt} {
			is(t, fmt.Sprintf("SetLife(%d)", life), s.SetLife(life), api.ErrArg)
			knows(t, s, want, 1)
			holds(t, d, frames(ofLife(3)), 0)
		}
	}
}

// P13.1: Sync

func TestSync(t *testing.T) {
	s, d := fresh(t, 1000, small())
	is(t, "Sync of nothing", s.Sync(), api.OK)
	holds(t, d, "", 0)
	is(t, "Put", s.Put(active(1, "a", 1)), api.OK)
	is(t, "SetState", s.SetState(1), api.OK)
	is(t, "Sync", s.Sync(), api.OK)
	bytes := frames(ofLease(active(1, "a", 1)), ofState(1))
	want := nothing(small()).with(active(1, "a", 1))
	want.state = 1
	holds(t, d, bytes, len(bytes))
	is(t, "SetLife", s.SetLife(1), api.OK)
	holds(t, d, bytes+frames(ofLife(1)), len(bytes))
	d.Fail(0)
	is(t, "Sync", s.Sync(), api.ErrDown)
	holds(t, d, bytes+frames(ofLife(1)), len(bytes))
	d.Fail(1)
	is(t, "Sync", s.Sync(), api.OK)
	bytes += frames(ofLife(1))
	holds(t, d, bytes, len(bytes))
	is(t, "Sync", s.Sync(), api.ErrDown)
	want.life = 1
	knows(t, s, want, 3)
}

// TestEachCallIsOneChange of the disk's: so many are performed, and not one more.
func TestEachCallIsOneChange(t *testing.T) {
	calls := map[string]func(s *store.Store) api.Errno{
		"Put":      func(s *store.Store) api.Errno { return s.Put(active(2, "b", 3)) },
		"SetState": func(s *store.Store) api.Errno { return s.SetState(2) },
		"SetLife":  func(s *store.Store) api.Errno { return s.SetLife(2) },
		"Sync":     func(s *store.Store) api.Errno { return s.Sync() },
		"Compact":  func(s *store.Store) api.Errno { return s.Compact() },
	}
	for name, do := range calls {
		s, d := fresh(t, 1000, small())
		is(t, "Put", s.Put(active(1, "a", 1)), api.OK)
		d.Fail(3)
		for range 3 {
			is(t, name, do(s), api.OK)
			s.Table()
			s.State()
			s.Life()
			s.Len()
		}
		is(t, name+" behind the failure", do(s), api.ErrDown)
	}
}

// P13.2: Compact

func TestCompactOfANewStore(t *testing.T) {
	s, d := fresh(t, 13, small())
	for range 3 {
		is(t, "Compact", s.Compact(), api.OK)
		holds(t, d, "\x00\x02S\x00\x5a\x00\x05F\x00\x00\x00\x00\x5a", 13)
		knows(t, s, nothing(small()), 2)
		knows(t, opened(t, d, small()), nothing(small()), 2)
	}
}

func TestCompactOfEachLease(t *testing.T) {
	for _, a := range span(1, 4) {
		for _, l := range right(a) {
			s, d := fresh(t, 1000, small())
			is(t, "Put", s.Put(active(a, "b", 4)), api.OK)
			is(t, "SetLife", s.SetLife(1<<29), api.OK)
			is(t, "Put", s.Put(l), api.OK)
			is(t, "SetState", s.SetState(8), api.OK)
			want, records := nothing(small()).with(l), []string{ofState(8), ofLife(1 << 29)}
			want.state, want.life = 8, 1<<29
			// It is left out only if the address is as in a new table.
			if l != (api.Lease{Addr: a}) {
				records = append(records, ofLease(l))
			}
			is(t, "Compact", s.Compact(), api.OK)
			holds(t, d, frames(records...), len(frames(records...)))
			knows(t, s, want, len(records))
			knows(t, opened(t, d, small()), want, len(records))
		}
	}
}

func TestCompactIsInOrder(t *testing.T) {
	pool := []api.Range{{Low: 250, High: 258}, {Low: top - 1, High: top}, {Low: 0, High: 1}, {Low: 1 << 31, High: 1<<31 + 1}}
	r := rand.New(rand.NewSource(1))
	for range 50 {
		s, d := fresh(t, 100000, pool...)
		want := nothing(pool...)
		for _, i := range r.Perm(len(want.leases)) {
			l := right(want.leases[i].Addr)[r.Intn(12)]
			is(t, "Put", s.Put(l), api.OK)
			want = want.with(l)
		}
		is(t, "Compact", s.Compact(), api.OK)
		bytes := frames(want.compact()...)
		holds(t, d, bytes, len(bytes))
		knows(t, s, want, len(want.compact()))
		knows(t, opened(t, d, pool...), want, len(want.compact()))
	}
}

func TestCompactOfAWholePool(t *testing.T) {
	pool := api.Range{Low: top - 255, High: top}
	s, d := fresh(t, api.MaxDisk, pool)
	want := nothing(pool)
	for i, x := range want.leases {
		l := active(x.Addr, strings.Repeat("x", 1+i%32), i)
		is(t, "Put", s.Put(api.Lease{Addr: x.Addr, Bind: api.Backup}), api.OK)
		is(t, "Put", s.Put(l), api.OK)
		want = want.with(l)
	}
	knows(t, s, want, 512)
	is(t, "Compact", s.Compact(), api.OK)
	knows(t, s, want, 258)
	d.Crash(0)
	knows(t, opened(t, d, pool), want, 258)
}

func TestCompactLeavesOutWhatSaysNothing(t *testing.T) {
	for _, record := range ignored() {
		d := made(t, 4000, frames(record, ofLease(active(2, "a", 1)), record), frames(ofState(2), record))
		s := opened(t, d, small())
		is(t, "Compact", s.Compact(), api.OK)
		bytes := frames(ofState(2), ofLife(0), ofLease(active(2, "a", 1)))
		holds(t, d, bytes, len(bytes))
		want := nothing(small()).with(active(2, "a", 1))
		want.state = 2
		knows(t, s, want, 3)
	}
}

func TestGoOnBehindCompact(t *testing.T) {
	s, d := fresh(t, 1000, small())
	is(t, "SetState", s.SetState(1), api.OK)
	is(t, "Compact", s.Compact(), api.OK)
	is(t, "Put", s.Put(active(4, "a", 1)), api.OK)
	is(t, "SetState", s.SetState(2), api.OK)
	is(t, "SetLife", s.SetLife(3), api.OK)
	want := nothing(small()).with(active(4, "a", 1))
	want.state, want.life = 2, 3
	knows(t, s, want, 5)
	holds(t, d, frames(ofState(1), ofLife(0), ofLease(active(4, "a", 1)), ofState(2), ofLife(3)), 13)
	knows(t, opened(t, d, small()), want, 5)
	is(t, "Compact", s.Compact(), api.OK)
	knows(t, s, want, 3)
}

// full is a store that knows this, on a disk with little more room than that takes.
func full(t *testing.T, room int, records ...string) (*store.Store, *disk.Disk, known) {
	t.Helper()
	d := made(t, room, frames(records...), "")
	s := opened(t, d, small())
	return s, d, nothing(small()).apply(records...)
}

func TestCompactOnADiskThatIsFull(t *testing.T) {
	for _, records := range [][]string{nil, {ofState(5)}, {ofLife(5)}, {ofLease(active(1, "a", 1))}, {ofLease(active(1, "a", 1)), ofLease(active(3, "abc", 1))}} {
		must := frames(nothing(small()).apply(records...).compact()...)
		for room := max(1, len(frames(records...))); room < len(must); room++ {
			s, d, want := full(t, room, records...)
			is(t, "Compact without room", s.Compact(), api.ErrFull)
			holds(t, d, frames(records...), len(frames(records...)))
			knows(t, s, want, len(records))
			knows(t, opened(t, d, small()), want, len(records))
		}
		for more := range 3 {
			s, d, want := full(t, len(must)+more, records...)
			is(t, "Compact with just room", s.Compact(), api.OK)
			holds(t, d, must, len(must))
			knows(t, s, want, len(want.compact()))
		}
	}
}

func TestCompactMakesRoom(t *testing.T) {
	s, d := fresh(t, 20, small())
	for range 4 {
		is(t, "SetState", s.SetState(1), api.OK)
	}
	is(t, "SetState", s.SetState(2), api.ErrFull)
	is(t, "Compact", s.Compact(), api.OK)
	is(t, "SetState", s.SetState(2), api.OK)
	want := nothing(small())
	want.state = 2
	knows(t, opened(t, d, small()), want, 3)
}

func TestCompactOnADiskThatFails(t *testing.T) {
	records := []string{ofState(1), ofState(2), ofLease(active(2, "a", 3)), ofLife(4)}
	for _, room := range []int{63, 1000} {
		bytes := frames(records...)
		d := made(t, room, bytes[:20], bytes[20:])
		s := opened(t, d, small())
		want := nothing(small()).apply(records...)
		d.Fail(0)
		for range 2 {
			is(t, "Compact", s.Compact(), api.ErrDown)
			holds(t, d, bytes, 20)
			knows(t, s, want, 4)
		}
		d.Crash(1000)
		is(t, "Compact", opened(t, d, small()).Compact(), api.OK)
		knows(t, opened(t, d, small()), want, 3)
	}
}

// P13.3: Table, State, Life and Len

func TestTableIsTheTableItself(t *testing.T) {
	s, _ := fresh(t, 1000, small())
	x := s.Table()
	if x == nil {
		t.Fatal("there is no table")
	}
	for i, do := range []func() api.Errno{
		func() api.Errno { return s.Put(active(1, "a", 1)) },
		func() api.Errno { return s.SetState(1) },
		func() api.Errno { return s.SetLife(1) },
		func() api.Errno { return s.Put(active(2, "a", 1)) },
		s.Sync,
		s.Compact,
		func() api.Errno { return s.Put(api.Lease{Addr: 1}) },
	} {
		is(t, fmt.Sprintf("the call %d", i), do(), api.OK)
		if s.Table() != x {
			t.Errorf("behind the call %d, the table is another one", i)
		}
	}
	if l := x.Of("a"); len(l) != 1 || l[0] != active(2, "a", 1) {
		t.Errorf("the table that was there at first has %+v", l)
	}
}

func TestLenIsThatOfTheLog(t *testing.T) {
	s, d := fresh(t, 1000, small())
	for i := range 20 {
		if n := s.Len(); n != i {
			t.Fatalf("Len %d behind %d records", n, i)
		}
		is(t, "SetState", s.SetState(i%9), api.OK)
		s.SetState(9)
		s.SetLife(-1)
		s.Put(api.Lease{Addr: 9})
	}
	// What comes to the disk from elsewhere counts, too, but is not known.
	is(t, "the disk's Append", d.Append([]byte(frames("other", ofState(7)))), api.OK)
	if n := s.Len(); n != 22 || s.State() != 1 {
		t.Errorf("Len %d, state %d, want 22, 1", n, s.State())
	}
	is(t, "the disk's Append", d.Append([]byte("\x00\x02")), api.OK)
	if n := s.Len(); n != 22 {
		t.Errorf("Len %d with a piece of a frame, want 22", n)
	}
	d.Fail(0)
	if n := s.Len(); n != 22 {
		t.Errorf("Len %d on a disk that fails, want 22", n)
	}
	d.Crash(12)
	if n := s.Len(); n != 2 {
		t.Errorf("Len %d behind a crash, want 2", n)
	}
}

// P13.4: what is known after a crash

func TestTheExample(t *testing.T) {
	s, d := fresh(t, 1000, small())
	is(t, "Put", s.Put(api.Lease{Addr: 1, Bind: api.Backup}), api.OK)
	is(t, "SetLife", s.SetLife(3), api.OK)
	is(t, "Sync", s.Sync(), api.OK)
	d.Crash(0)
	want := nothing(small()).with(api.Lease{Addr: 1, Bind: api.Backup})
	want.life = 3
	knows(t, opened(t, d, small()), want, 2)
}

// changes are some of them, each of which changes what is known.
func changes() []string {
	return []string{
		ofLease(active(1, "a", 1)), ofState(3), ofLease(api.Lease{Addr: 2, Bind: api.Backup}), ofLife(1), ofLease(active(1, "bc", 2)),
		ofState(8), ofLease(api.Lease{Addr: 2}), ofLife(mostLife), ofLease(active(4, strings.Repeat("x", 32), 3)),
	}
}

// do is the call that notes this record.
func do(s *store.Store, record string) api.Errno {
	switch l, _ := lease(record[1:]); record[0] {
	case 'L':
		return s.Put(l)
	case 'S':
		return s.SetState(value(record[1:]))
	}
	return s.SetLife(value(record[1:]))
}

// TestCrashWithEveryKeep: with the first changes synced, and the whole, a part
// and nothing of the others.
func TestCrashWithEveryKeep(t *testing.T) {
	for synced := range len(changes()) + 1 {
		for _, compact := range []bool{false, true} {
			rest := len(frames(changes()[synced:]...))
			for keep := -1; keep <= rest+1; keep++ {
				s, d := fresh(t, 1000, small())
				for _, record := range changes()[:synced] {
					is(t, "a change", do(s, record), api.OK)
				}
				sure, count := nothing(small()).apply(changes()[:synced]...), synced
				if compact {
					is(t, "Compact", s.Compact(), api.OK)
					count = len(sure.compact())
				} else {
					is(t, "Sync", s.Sync(), api.OK)
				}
				for _, record := range changes()[synced:] {
					is(t, "a change", do(s, record), api.OK)
				}
				d.Crash(keep)
				kept := found(frames(changes()[synced:]...)[:min(max(keep, 0), rest)])
				for range 2 {
					knows(t, opened(t, d, small()), sure.apply(kept...), count+len(kept))
					d.Crash(0)
				}
			}
		}
	}
}

func TestWhatWasNotSyncedMayBeLost(t *testing.T) {
	s, d := fresh(t, 1000, small())
	for _, record := range changes() {
		is(t, "a change", do(s, record), api.OK)
	}
	d.Fail(0)
	is(t, "Sync", s.Sync(), api.ErrDown)
	is(t, "Compact", s.Compact(), api.ErrDown)
	d.Crash(math.MinInt)
	knows(t, opened(t, d, small()), nothing(small()), 0)
}

// TestCrashAheadOfTheNextOpen: what Open finds is durable only with the next Sync.
func TestCrashAheadOfTheNextOpen(t *testing.T) {
	s, d := fresh(t, 1000, small())
	is(t, "SetState", s.SetState(1), api.OK)
	is(t, "Sync", s.Sync(), api.OK)
	is(t, "SetState", s.SetState(2), api.OK)
	want := nothing(small())
	want.state = 2
	s = opened(t, d, small())
	knows(t, s, want, 2)
	d.Crash(0)
	want.state = 1
	s = opened(t, d, small())
	knows(t, s, want, 1)
	is(t, "SetState", s.SetState(3), api.OK)
	s = opened(t, d, small())
	is(t, "Sync", s.Sync(), api.OK)
	d.Crash(0)
	want.state = 3
	knows(t, opened(t, d, small()), want, 2)
}

// TestCompactChangesNothingKnown: neither now nor after a crash, whatever is
// kept, and whether it is performed or not.
func TestCompactChangesNothingKnown(t *testing.T) {
	for n := range len(changes()) + 1 {
		for _, in := range []int{-1, 0} {
			for _, keep := range []int{0, 1, 20, 1000} {
				s, d := fresh(t, 1000, small())
				for _, record := range changes()[:n] {
					is(t, "a change", do(s, record), api.OK)
				}
				is(t, "Sync", s.Sync(), api.OK)
				want := told(s)
				d.Fail(in)
				s.Compact()
				if got := told(s); !got.equal(want) {
					t.Fatalf("behind Compact, the store knows %v, and knew %v", got, want)
				}
				d.Crash(keep)
				if got := told(opened(t, d, small())); !got.equal(want) || !got.equal(nothing(small()).apply(changes()[:n]...)) {
					t.Fatalf("behind Compact and a crash, the store knows %v, and knew %v", got, want)
				}
			}
		}
	}
}

// TestAnyCrash holds random runs against the theorem: each change is another
// one, so it can be told how many of them are known.
func TestAnyCrash(t *testing.T) {
	r := rand.New(rand.NewSource(2))
	for range 300 {
		s, d := fresh(t, 300+r.Intn(2000), small())
		history, sure := []known{nothing(small())}, 0
		for i := range 60 {
			last := history[len(history)-1]
			switch r.Intn(12) {
			case 0:
				if s.Sync() == api.OK {
					sure = len(history) - 1
				}
			case 1:
				if s.Compact() == api.OK {
					sure = len(history) - 1
				}
			case 2:
				d.Fail(r.Intn(6) - 1)
			case 3:
				d.Crash(r.Intn(200) - 20)
				s = opened(t, d, small())
				n := slices.IndexFunc(history, func(k known) bool { return k.equal(told(s)) })
				if n < sure {
					t.Fatalf("after a crash, %v is known, which is the change %d of %d, %d of which were synced", told(s), n, len(history)-1, sure)
				}
				history, sure = history[:n+1], n
			default:
				record := ofLife(i + 1)
				if r.Intn(2) == 0 {
					record = ofLease(active(api.Addr(1+r.Intn(4)), "ab"[r.Intn(2):], i+1))
				}
				if do(s, record) == api.OK {
					history = append(history, last.apply(record))
				}
			}
			if got, want := told(s), history[len(history)-1]; !got.equal(want) {
				t.Fatalf("%v is known, want %v", got, want)
			}
		}
	}
}

// model is a store and its disk, by the document's words.
type model struct {
	room, lasts, left int
	bytes             string
	known             known
}

// change counts a change of the disk's, and answers its error.
func (m *model) change() api.Errno {
	if m.left == 0 {
		return api.ErrDown
	}
	if m.left > 0 {
		m.left--
	}
	return api.OK
}

// note is what a call that notes this record has to answer.
func (m *model) note(record string) api.Errno {
	if e := m.change(); e != api.OK {
		return e
	}
	if len(m.bytes)+len(frames(record)) > m.room {
		return api.ErrFull
	}
	m.bytes += frames(record)
	m.known = m.known.apply(record)
	return api.OK
}

// swap is what a call that replaces all bytes has to answer.
func (m *model) swap(bytes string) api.Errno {
	if e := m.change(); e != api.OK {
		return e
	}
	if len(bytes) > m.room {
		return api.ErrFull
	}
	m.bytes, m.lasts = bytes, len(bytes)
	return api.OK
}

// put is what Put has to answer.
func (m *model) put(l api.Lease) api.Errno {
	if !valid(l) {
		return api.ErrArg
	}
	if m.known.place(l.Addr) < 0 {
		return api.ErrNone
	}
	return m.note(ofLease(l))
}

// set is what SetState and SetLife have to answer.
func (m *model) set(n, most int, record string) api.Errno {
	if n < 0 || n > most {
		return api.ErrArg
	}
	return m.note(record)
}

// sync is what Sync has to answer.
func (m *model) sync() api.Errno {
	if e := m.change(); e != api.OK {
		return e
	}
	m.lasts = len(m.bytes)
	return api.OK
}

// crash is what is left behind one.
func (m *model) crash(keep int) {
	m.lasts = min(len(m.bytes), m.lasts+max(keep, 0))
	m.bytes, m.left = m.bytes[:m.lasts], -1
}

// open is what Open has to answer.
func (m *model) open(pool ...api.Range) api.Errno {
	records := found(m.bytes)
	if whole := frames(records...); whole != m.bytes {
		if e := m.swap(whole); e != api.OK {
			return e
		}
	}
	m.known = nothing(pool...).apply(records...)
	return api.OK
}

// anyLease is a lease, of which something may be wrong.
func anyLease(r *rand.Rand) api.Lease {
	a := api.Addr(r.Intn(7))
	switch r.Intn(12) {
	case 0:
		return wrong(a)[r.Intn(len(wrong(a)))]
	case 1:
		return wild(a)[r.Intn(len(wild(a)))]
	case 2:
		return api.Lease{Addr: a}
	}
	return right(a)[r.Intn(len(right(a)))]
}

// anyBytes is bytes that may come to a disk from elsewhere: often whole frames.
func anyBytes(r *rand.Rand) string {
	l := []string{
		ofState(r.Intn(12)), ofLife(r.Intn(1 << 30)), ofLife(mostLife + r.Intn(3) - 1), ofLease(right(api.Addr(r.Intn(7)))[r.Intn(12)]),
		ignored()[r.Intn(len(ignored()))],
	}
	b := frames(l[r.Intn(len(l))])
	if r.Intn(4) == 0 {
		return b[:r.Intn(len(b))]
	}
	return b
}

// step does a random thing to s, on d, and to m, and checks what it answers.
func step(t *testing.T, r *rand.Rand, s *store.Store, d *disk.Disk, m *model) *store.Store {
	t.Helper()
	switch r.Intn(16) {
	case 0, 1, 2, 3, 4:
		l := anyLease(r)
		is(t, fmt.Sprintf("Put(%.300v)", l), s.Put(l), m.put(l))
	case 5, 6:
		n := r.Intn(11) - 1
		is(t, fmt.Sprintf("SetState(%d)", n), s.SetState(n), m.set(n, 8, ofState(n)))
	case 7, 8:
		n := []int{-1, 0, 1, r.Intn(mostLife), mostLife, mostLife + 1, mostLife + r.Intn(1<<40)}[r.Intn(7)]
		is(t, fmt.Sprintf("SetLife(%d)", n), s.SetLife(n), m.set(n, mostLife, ofLife(n)))
	case 9:
		is(t, "Sync", s.Sync(), m.sync())
	case 10:
		is(t, "Compact", s.Compact(), m.swap(frames(m.known.compact()...)))
	case 11:
		in := r.Intn(8) - 1
		d.Fail(in)
		m.left = in
	case 12, 13:
		keep := r.Intn(150) - 10
		d.Crash(keep)
		m.crash(keep)
		return again(t, r, s, d, m)
	case 14:
		b := anyBytes(r)
		if d.Append([]byte(b)) == api.OK {
			m.bytes += b
		}
		m.change()
	default:
		return again(t, r, s, d, m)
	}
	return s
}

// again opens d, with a pool that may be another one, and checks what is
// answered: the store that is there then.
func again(t *testing.T, r *rand.Rand, s *store.Store, d *disk.Disk, m *model) *store.Store {
	t.Helper()
	pool := [][]api.Range{{small()}, {small()}, {small()}, {{Low: 0, High: 2}}, {{Low: 5, High: 6}, {Low: 1, High: 3}}, nil}[r.Intn(6)]
	x, e := store.Open(d, pool)
	is(t, "Open", e, m.open(pool...))
	if e != api.OK {
		return s
	}
	return x
}

// Random calls, on a disk that is small, fails, crashes, and gets other bytes,
// too: each answer is held against the model.
func TestRandomCalls(t *testing.T) {
	r := rand.New(rand.NewSource(3))
	for range 400 {
		room := 1 + r.Intn(1200)
		s, d := fresh(t, room, small())
		m := &model{room: room, left: -1, known: nothing(small())}
		for range 60 {
			s = step(t, r, s, d, m)
			holds(t, d, m.bytes, m.lasts)
			knows(t, s, m.known, len(found(m.bytes)))
		}
	}
}

// P1: Open of any bytes

func TestOpenOfRandomBytes(t *testing.T) {
	r := rand.New(rand.NewSource(4))
	for range 3000 {
		var b []byte
		for range r.Intn(6) {
			b = append(b, anyBytes(r)...)
		}
		for range r.Intn(3) {
			if len(b) > 0 {
				b[r.Intn(len(b))] = byte(r.Intn(256))
			}
		}
		anyBytesAgree(t, b)
	}
}

// anyBytesAgree fails unless Open of these bytes answers as the words have it.
func anyBytesAgree(t *testing.T, b []byte) {
	t.Helper()
	if len(b) == 0 || len(b) > api.MaxDisk {
		return
	}
	d := made(t, len(b), string(b), "")
	records := found(string(b))
	want := nothing(small()).apply(records...)
	s := opened(t, d, small())
	knows(t, s, want, len(records))
	holds(t, d, frames(records...), len(frames(records...)))
	if s.Compact() == api.OK {
		holds(t, d, frames(want.compact()...), len(frames(want.compact()...)))
		knows(t, opened(t, d, small()), want, len(want.compact()))
	}
}

func FuzzOpen(f *testing.F) {
	f.Add([]byte(frames(changes()...)))
	for _, piece := range pieces() {
		f.Add([]byte(frames(ofState(3)) + piece))
	}
	f.Fuzz(func(t *testing.T, b []byte) { anyBytesAgree(t, b) })
}

// R3: what is shared

func TestOpenLeavesThePool(t *testing.T) {
	pool := []api.Range{{Low: 4, High: 4}, {Low: 1, High: 2}, {Low: 2, High: 3}}
	same := slices.Clone(pool)
	s, d := fresh(t, 1000, pool...)
	if !slices.Equal(pool, same) {
		t.Errorf("Open made the pool %v", pool)
	}
	for i := range pool {
		pool[i] = api.Range{Low: 50, High: 60}
	}
	is(t, "Put", s.Put(active(2, "a", 1)), api.OK)
	is(t, "Put", s.Put(active(50, "a", 1)), api.ErrNone)
	is(t, "Compact", s.Compact(), api.OK)
	knows(t, s, nothing(small()).with(active(2, "a", 1)), 3)
	knows(t, opened(t, d, small()), nothing(small()).with(active(2, "a", 1)), 3)
}

func TestTheDiskIsUsedDirectly(t *testing.T) {
	d := made(t, 100, "", "")
	s := opened(t, d, small())
	is(t, "SetState", s.SetState(1), api.OK)
	holds(t, d, frames(ofState(1)), 0)
	is(t, "the disk's Sync", d.Sync(), api.OK)
	d.Crash(0)
	want := nothing(small())
	want.state = 1
	knows(t, s, want, 1)
	knows(t, opened(t, d, small()), want, 1)
}

func TestStoresOfTwoDisksAreApart(t *testing.T) {
	x, d := fresh(t, 1000, small())
	y, f := fresh(t, 1000, small())
	is(t, "Put", x.Put(active(1, "a", 1)), api.OK)
	is(t, "SetState", x.SetState(1), api.OK)
	knows(t, y, nothing(small()), 0)
	is(t, "SetLife", y.SetLife(2), api.OK)
	is(t, "Put", y.Put(active(1, "b", 2)), api.OK)
	want := nothing(small()).with(active(1, "a", 1))
	want.state = 1
	knows(t, x, want, 2)
	knows(t, opened(t, d, small()), want, 2)
	want = nothing(small()).with(active(1, "b", 2))
	want.life = 2
	knows(t, y, want, 2)
	knows(t, opened(t, f, small()), want, 2)
}

// TestTwoStoresOnOneDisk: each knows what it knows; the log is that of both.
func TestTwoStoresOnOneDisk(t *testing.T) {
	x, d := fresh(t, 1000, small())
	y := opened(t, d, small())
	is(t, "SetState", x.SetState(1), api.OK)
	is(t, "SetLife", y.SetLife(2), api.OK)
	one, other, both := nothing(small()), nothing(small()), nothing(small())
	one.state, other.life, both.state, both.life = 1, 2, 1, 2
	knows(t, x, one, 2)
	knows(t, y, other, 2)
	knows(t, opened(t, d, small()), both, 2)
}
