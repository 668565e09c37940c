package wal_test

import (
	"fmt"
	"math"
	"math/rand"
	"slices"
	"strings"
	"testing"

	"lessor/api"
	"lessor/disk"
	"lessor/wal"
)

// of is a record that is many bytes long, each of them different from those
// beside it, and told apart from other records' by its first.
func of(many, start int) string {
	b := make([]byte, many)
	for i := range b {
		b[i] = byte(start + i*7)
	}
	return string(b)
}

// framed is the frame of a record by the document's words.
func framed(record string) string {
	return string([]byte{byte(len(record) / 256), byte(len(record) % 256)}) + record + "\x5a"
}

// joined is the frames of records, in order.
func joined(records ...string) string {
	var b strings.Builder
	for _, record := range records {
		b.WriteString(framed(record))
	}
	return b.String()
}

// found is the records of the frames at the beginning of b by the document's
// words, as long as a complete one follows.
func found(b string) []string {
	var l []string
	for len(b) >= 2 {
		many := int(b[0])*256 + int(b[1])
		if many < 1 || many > 1000 || many+3 > len(b) || b[2+many] != 90 {
			break
		}
		l = append(l, b[2:2+many])
		b = b[many+3:]
	}
	return l
}

// slice is records as what Compact takes.
func slice(records []string) [][]byte {
	var l [][]byte
	for _, record := range records {
		l = append(l, []byte(record))
	}
	return l
}

// made is a new disk, with these bytes, the first of which are durable.
func made(t *testing.T, room int, durable, after string) *disk.Disk {
	t.Helper()
	d, e := disk.New(room)
	if e != api.OK {
		t.Fatalf("disk.New(%d): error %d", room, e)
	}
	if a, b := d.Swap([]byte(durable)), d.Append([]byte(after)); a != api.OK || b != api.OK {
		t.Fatalf("a disk with room for %d, with %d and %d bytes: errors %d, %d", room, len(durable), len(after), a, b)
	}
	return d
}

// opened is the log on a disk.
func opened(t *testing.T, d *disk.Disk) *wal.Log {
	t.Helper()
	l, e := wal.Open(d)
	if e != api.OK || l == nil {
		t.Fatalf("Open of a disk with %.60q = %v, error %d", d.Read(), l, e)
	}
	return l
}

// fresh is the log on a new disk, and the disk.
func fresh(t *testing.T, room int) (*wal.Log, *disk.Disk) {
	t.Helper()
	d := made(t, room, "", "")
	return opened(t, d), d
}

// is checks an error.
func is(t *testing.T, call string, e, want api.Errno) {
	t.Helper()
	if e != want {
		t.Fatalf("%s: error %d, want %d", call, e, want)
	}
}

// holds checks a disk's bytes, and how many of them are durable.
func holds(t *testing.T, d *disk.Disk, bytes string, lasts int) {
	t.Helper()
	if got := string(d.Read()); got != bytes {
		t.Fatalf("the disk has %d bytes %.60q, want %d bytes %.60q", len(got), got, len(bytes), bytes)
	}
	if got := d.Lasts(); got != lasts {
		t.Fatalf("of the disk's %d bytes, %d are durable, want %d", len(bytes), got, lasts)
	}
}

// knows checks the records of a log.
func knows(t *testing.T, l *wal.Log, want ...string) {
	t.Helper()
	got := l.Records()
	if len(got) != len(want) || l.Len() != len(want) {
		t.Fatalf("%d records %.60q, Len %d; want %d: %.60q", len(got), got, l.Len(), len(want), want)
	}
	for i, record := range got {
		if string(record) != want[i] {
			t.Fatalf("record %d is %.60q, want %.60q", i, record, want[i])
		}
	}
}

// full is a text of many bytes that are no frame's.
func full(many int) string { return strings.Repeat("\xff", many) }

// pieces are bytes that are not complete frames: what is left of a frame, and
// other bytes, some of them with complete frames behind them.
func pieces() []string {
	l := []string{
		"\x00", "\x00\x01", "\x00\x01\x07", "\x00\x02ab", "\x03\xe8", "\x5a", "\x00\x5a",
		"\x00\x00\x5a", "\x00\x00", "\x00\x01a\x5b", "\x00\x01a\x00", "\x00\x01ab\x5a", "\xff\xff", "\xff", "other bytes",
		"\x03\xe9" + of(1001, 0) + "\x5a", "\x80\x01a\x5a", "\x04\x01" + of(1025, 0) + "\x5a",
		"\x00\x00\x5a" + framed("a"), "\x5a" + framed("a") + framed("b"), "\x00\x02a" + framed("b"), full(300),
	}
	for cut := 1; cut < 8; cut++ {
		l = append(l, framed("abcde")[:cut])
	}
	whole := framed(of(1000, 3))
	return append(l, whole[:500], whole[:1000], whole[:1002], whole[:1002]+"\x59")
}

// ahead are records that may stand ahead of such bytes: also none.
func ahead() [][]string {
	return [][]string{nil, {"a"}, {"\x5a"}, {"\x00\x01a\x5a", "b"}, {of(1000, 1), "x", of(256, 2)}}
}

// P10.1: Open

func TestOpenOfNil(t *testing.T) {
	if l, e := wal.Open(nil); l != nil || e != api.ErrArg {
		t.Errorf("Open(nil) = %v, error %d, want nothing, and error %d", l, e, api.ErrArg)
	}
}

func TestOpenOfAnEmptyDisk(t *testing.T) {
	for _, room := range []int{1, 3, 4, 1003, api.MaxDisk} {
		for _, in := range []int{-1, 0, 1} {
			d := made(t, room, "", "")
			d.Fail(in)
			l := opened(t, d)
			knows(t, l)
			holds(t, d, "", 0)
		}
	}
}

func TestOpenOfCompleteFrames(t *testing.T) {
	for _, durable := range ahead() {
		for _, after := range ahead() {
			b := joined(durable...) + joined(after...)
			d := made(t, max(len(b), 1), joined(durable...), joined(after...))
			l := opened(t, d)
			knows(t, l, append(slices.Clone(durable), after...)...)
			holds(t, d, b, len(joined(durable...)))
		}
	}
}

// TestOpenOfCompleteFramesIsNoChange: where nothing is to be replaced, nothing
// can fail, and no change is counted.
func TestOpenOfCompleteFramesIsNoChange(t *testing.T) {
	for in := range 3 {
		d := made(t, 100, framed("a"), framed("bc"))
		d.Fail(in)
		for range 5 {
			knows(t, opened(t, d), "a", "bc")
		}
		for range in {
			is(t, "Sync ahead of the failure", d.Sync(), api.OK)
		}
		is(t, "Sync", d.Sync(), api.ErrDown)
	}
}

func TestOpenTakesOffWhatFollows(t *testing.T) {
	for _, records := range ahead() {
		for _, piece := range pieces() {
			whole := joined(records...)
			for _, durable := range []int{0, len(whole) / 2, len(whole), len(whole) + len(piece)/2, len(whole) + len(piece)} {
				b := whole + piece
				d := made(t, len(b), b[:durable], b[durable:])
				l := opened(t, d)
				// It is replaced durably, as by Swap.
				holds(t, d, whole, len(whole))
				knows(t, l, records...)
				d.Crash(0)
				knows(t, opened(t, d), records...)
			}
		}
	}
}

func TestAppendBehindWhatWasTakenOff(t *testing.T) {
	for _, piece := range pieces() {
		d := made(t, 3000, framed("a"), piece)
		l := opened(t, d)
		is(t, "Append", l.Append([]byte("b")), api.OK)
		holds(t, d, framed("a")+framed("b"), 4)
		knows(t, l, "a", "b")
		is(t, "Sync", l.Sync(), api.OK)
		d.Crash(0)
		knows(t, opened(t, d), "a", "b")
	}
}

func TestOpenWhereSwapFails(t *testing.T) {
	for _, records := range ahead() {
		for _, piece := range pieces() {
			b := joined(records...) + piece
			for _, durable := range []int{0, len(b) / 2, len(b)} {
				d := made(t, len(b), b[:durable], b[durable:])
				d.Fail(0)
				for range 2 {
					if l, e := wal.Open(d); l != nil || e != api.ErrDown {
						t.Fatalf("Open = %v, error %d, want nothing, and error %d", l, e, api.ErrDown)
					}
					holds(t, d, b, durable)
				}
				// One change of the disk's is one too few for anything else.
				d.Fail(1)
				l := opened(t, d)
				knows(t, l, records...)
				holds(t, d, joined(records...), len(joined(records...)))
				is(t, "Sync", l.Sync(), api.ErrDown)
				is(t, "Append", l.Append([]byte("a")), api.ErrDown)
				is(t, "Compact", l.Compact(nil), api.ErrDown)
				knows(t, opened(t, d), records...)
			}
		}
	}
}

// P10.1: Records and Len

func TestRecordsAreThoseOfTheDisksBytes(t *testing.T) {
	d := made(t, 200, "", "")
	l := opened(t, d)
	for _, c := range []struct {
		bytes string
		want  []string
	}{
		{framed("a"), []string{"a"}},
		{framed("a") + framed("bc") + framed("a"), []string{"a", "bc", "a"}},
		{"", nil},
		{"\x00", nil},
		{"other bytes", nil},
		{framed("a") + "\x00\x02b", []string{"a"}},
		{framed("a") + "\x00\x00\x5a" + framed("b"), []string{"a"}},
		{"\x5a" + framed("a"), nil},
		{framed("\x00\x01a\x5a"), []string{"\x00\x01a\x5a"}},
	} {
		// Behind the log's back: what it knows is what is on the disk.
		d.Swap([]byte(c.bytes))
		knows(t, l, c.want...)
		holds(t, d, c.bytes, len(c.bytes))
		d.Swap(nil)
		d.Append([]byte(c.bytes))
		knows(t, l, c.want...)
		holds(t, d, c.bytes, 0)
		d.Fail(0)
		knows(t, l, c.want...)
		d.Crash(0)
		knows(t, l)
	}
}

// TestRecordsWithoutOpenAfterACrash: Open alone takes off what follows, so a log
// that goes on without it finds nothing behind a piece of a frame.
func TestRecordsWithoutOpenAfterACrash(t *testing.T) {
	l, d := fresh(t, 100)
	l.Append([]byte("a"))
	l.Append([]byte("b"))
	d.Crash(6)
	knows(t, l, "a")
	holds(t, d, framed("a")+"\x00\x01", 6)
	is(t, "Append", l.Append([]byte("c")), api.OK)
	knows(t, l, "a")
	holds(t, d, framed("a")+"\x00\x01"+framed("c"), 6)
	is(t, "Compact", l.Compact(l.Records()), api.OK)
	knows(t, l, "a")
	holds(t, d, framed("a"), 4)
}

func TestRecordsChangeNothing(t *testing.T) {
	d := made(t, 100, framed("a"), framed("b"))
	l := opened(t, d)
	d.Append([]byte("piece"))
	d.Fail(1)
	for range 100 {
		knows(t, l, "a", "b")
		holds(t, d, framed("a")+framed("b")+"piece", 4)
	}
	is(t, "Sync", l.Sync(), api.OK)
	is(t, "Sync", l.Sync(), api.ErrDown)
}

func TestManyRecords(t *testing.T) {
	l, d := fresh(t, api.MaxDisk)
	var want []string
	for i := range 1500 {
		want = append(want, of(1+i%5, i))
		is(t, "Append", l.Append([]byte(want[i])), api.OK)
		if l.Len() != i+1 {
			t.Fatalf("Len %d behind %d records", l.Len(), i+1)
		}
	}
	knows(t, l, want...)
	knows(t, opened(t, d), want...)
	is(t, "Compact", l.Compact(l.Records()[700:]), api.OK)
	knows(t, l, want[700:]...)
}

// P10.2: Append

func TestAppend(t *testing.T) {
	l, d := fresh(t, 10000)
	var want []string
	for i, many := range []int{1, 2, 3, 90, 127, 128, 255, 256, 257, 512, 999, 1000} {
		want = append(want, of(many, i))
		is(t, fmt.Sprintf("Append of %d bytes", many), l.Append([]byte(of(many, i))), api.OK)
		// It is not durable yet.
		holds(t, d, joined(want...), 0)
		knows(t, l, want...)
	}
}

func TestAppendOfEveryByte(t *testing.T) {
	l, d := fresh(t, 2000)
	var want []string
	for c := range 256 {
		want = append(want, string([]byte{byte(c)}))
		is(t, "Append", l.Append([]byte{byte(c)}), api.OK)
	}
	holds(t, d, joined(want...), 0)
	knows(t, opened(t, d), want...)
}

func TestAppendRefusesOtherLengths(t *testing.T) {
	for _, many := range []int{0, 1001, 1002, 1024, 1025, 2000, 65535, 65536, 65537, 1 << 20, 1 << 24} {
		d := made(t, 2000, framed("a"), framed("b"))
		l := opened(t, d)
		is(t, fmt.Sprintf("Append of %d bytes", many), l.Append(make([]byte, many)), api.ErrArg)
		holds(t, d, framed("a")+framed("b"), 4)
		knows(t, l, "a", "b")
	}
	l, d := fresh(t, 100)
	is(t, "Append(nil)", l.Append(nil), api.ErrArg)
	is(t, "Append of no bytes", l.Append([]byte("abc")[:0]), api.ErrArg)
	holds(t, d, "", 0)
}

func TestAppendWhereThereIsJustRoom(t *testing.T) {
	for _, many := range []int{1, 2, 255, 256, 999, 1000} {
		for _, records := range ahead() {
			b := joined(records...)
			for more := range 4 {
				// A byte of room too little, as many as it takes, and some more.
				d := made(t, len(b)+many+2+more, b, "")
				l := opened(t, d)
				record := of(many, 9)
				if more == 0 {
					is(t, "Append without room", l.Append([]byte(record)), api.ErrFull)
					holds(t, d, b, len(b))
					knows(t, l, records...)
					continue
				}
				is(t, "Append with just room", l.Append([]byte(record)), api.OK)
				holds(t, d, b+framed(record), len(b))
				knows(t, l, append(slices.Clone(records), record)...)
				is(t, "Append behind it", l.Append([]byte("x")), api.ErrFull)
				holds(t, d, b+framed(record), len(b))
			}
		}
	}
}

func TestAppendOfOneMoreByteThanThereIsRoomFor(t *testing.T) {
	for room := 1; room <= 1100; room++ {
		l, d := fresh(t, room)
		for _, many := range []int{room - 2, room - 3} {
			want := api.OK
			switch {
			case many < 1 || many > 1000:
				want = api.ErrArg
			case many+3 > room:
				want = api.ErrFull
			}
			record := of(max(many, 0), room)
			is(t, fmt.Sprintf("room %d: Append of %d bytes", room, many), l.Append([]byte(record)), want)
			if want == api.OK {
				holds(t, d, framed(record), 0)
			} else {
				holds(t, d, "", 0)
			}
		}
	}
}

func TestAppendOnADiskThatFails(t *testing.T) {
	for in := range 4 {
		l, d := fresh(t, 100)
		d.Fail(in)
		var want []string
		for i := range in {
			want = append(want, of(2, i))
			is(t, "Append ahead of the failure", l.Append([]byte(of(2, i))), api.OK)
		}
		for range 3 {
			is(t, "Append", l.Append([]byte("x")), api.ErrDown)
			holds(t, d, joined(want...), 0)
			knows(t, l, want...)
		}
		d.Fail(-1)
		is(t, "Append behind the failure", l.Append([]byte("x")), api.OK)
		knows(t, l, append(want, "x")...)
	}
}

func TestWhichErrorOfAppendComesFirst(t *testing.T) {
	// That of frame.Put, on a disk that fails, or has no room, or both.
	for _, b := range [][]byte{nil, {}, make([]byte, 1001), make([]byte, 70000)} {
		for _, in := range []int{-1, 0, 1, 2} {
			d := made(t, 4, framed("a"), "")
			l := opened(t, d)
			d.Fail(in)
			for range 3 {
				is(t, "Append", l.Append(b), api.ErrArg)
				holds(t, d, framed("a"), 4)
			}
			// What frame.Put refused is no change of the disk's.
			for range in {
				is(t, "Sync ahead of the failure", l.Sync(), api.OK)
			}
			if in >= 0 {
				is(t, "Sync", l.Sync(), api.ErrDown)
			}
		}
	}
	// Then that of disk.Append, whose ErrDown comes ahead of its ErrFull.
	l, d := fresh(t, 3)
	d.Fail(1)
	is(t, "Append without room", l.Append([]byte("a")), api.ErrFull)
	is(t, "Append without room, where the disk fails", l.Append([]byte("a")), api.ErrDown)
	holds(t, d, "", 0)
}

// P10.2: Sync

func TestSync(t *testing.T) {
	l, d := fresh(t, 100)
	is(t, "Sync of nothing", l.Sync(), api.OK)
	holds(t, d, "", 0)
	l.Append([]byte("a"))
	is(t, "Sync", l.Sync(), api.OK)
	holds(t, d, framed("a"), 4)
	is(t, "Sync again", l.Sync(), api.OK)
	holds(t, d, framed("a"), 4)
	l.Append([]byte("bc"))
	l.Append([]byte("d"))
	holds(t, d, joined("a", "bc", "d"), 4)
	is(t, "Sync", l.Sync(), api.OK)
	holds(t, d, joined("a", "bc", "d"), 13)
	knows(t, l, "a", "bc", "d")
}

func TestSyncOnADiskThatFails(t *testing.T) {
	for in := range 4 {
		d := made(t, 100, framed("a"), framed("b"))
		l := opened(t, d)
		d.Fail(in)
		for range in {
			is(t, "Sync ahead of the failure", l.Sync(), api.OK)
		}
		lasts := d.Lasts()
		for range 3 {
			is(t, "Sync", l.Sync(), api.ErrDown)
			holds(t, d, joined("a", "b"), lasts)
		}
	}
}

func TestSyncOfTheLogIsTheDisks(t *testing.T) {
	// Also of what is no frame, and of what another one appended.
	l, d := fresh(t, 100)
	d.Append([]byte("no frame"))
	is(t, "Sync", l.Sync(), api.OK)
	holds(t, d, "no frame", 8)
	var sync func() api.Errno = l.Sync
	d.Append([]byte("!"))
	is(t, "Sync", sync(), api.OK)
	holds(t, d, "no frame!", 9)
}

// P10.2: Compact

func TestCompact(t *testing.T) {
	many := make([]string, 300)
	for i := range many {
		many[i] = of(1+i%9, i)
	}
	for _, before := range append(ahead(), many) {
		for _, records := range append(ahead(), []string{"z"}, []string{"c", "b", "a", "b"}, many) {
			for _, sync := range []bool{false, true} {
				l, d := fresh(t, 5000)
				for _, record := range before {
					is(t, "Append", l.Append([]byte(record)), api.OK)
				}
				if sync {
					is(t, "Sync", l.Sync(), api.OK)
				}
				is(t, "Compact", l.Compact(slice(records)), api.OK)
				b := joined(records...)
				// It is durable.
				holds(t, d, b, len(b))
				knows(t, l, records...)
				d.Crash(0)
				l = opened(t, d)
				knows(t, l, records...)
				is(t, "Append", l.Append([]byte("x")), api.OK)
				holds(t, d, b+framed("x"), len(b))
			}
		}
	}
}

func TestCompactOfNoRecords(t *testing.T) {
	for _, none := range [][][]byte{nil, {}, slice([]string{"a"})[:0]} {
		d := made(t, 100, framed("a"), framed("b")+"piece")
		l := opened(t, d)
		l.Append([]byte("c"))
		is(t, "Compact", l.Compact(none), api.OK)
		holds(t, d, "", 0)
		knows(t, l)
	}
}

func TestCompactOfWhatIsThere(t *testing.T) {
	l, d := fresh(t, 20)
	for _, record := range []string{"a", "bc", "d"} {
		l.Append([]byte(record))
	}
	is(t, "Compact", l.Compact(l.Records()), api.OK)
	holds(t, d, joined("a", "bc", "d"), 13)
	is(t, "Compact", l.Compact(l.Records()[1:2]), api.OK)
	holds(t, d, framed("bc"), 5)
}

func TestCompactTakesOffWhatIsNoFrame(t *testing.T) {
	l, d := fresh(t, 100)
	d.Append([]byte("no frame"))
	is(t, "Compact", l.Compact(slice([]string{"a"})), api.OK)
	holds(t, d, framed("a"), 4)
}

// wrong are records that frame.Put refuses.
func wrong() [][]byte {
	return [][]byte{nil, {}, make([]byte, 1001), make([]byte, 65536), make([]byte, 65537)}
}

func TestCompactRefusesWrongRecords(t *testing.T) {
	for _, bad := range wrong() {
		for _, room := range []int{8, 4000} {
			for right := range 4 {
				for at := range right + 1 {
					for _, in := range []int{-1, 0, 1} {
						records := slices.Insert(slice([]string{"x", "yz", of(1000, 0)}[:right]), at, bad)
						d := made(t, room, framed("a"), framed("b"))
						l := opened(t, d)
						d.Fail(in)
						for range 2 {
							is(t, fmt.Sprintf("Compact of %d right records, and one of %d bytes", right, len(bad)), l.Compact(records), api.ErrArg)
							holds(t, d, framed("a")+framed("b"), 4)
							knows(t, l, "a", "b")
						}
						// It was no change of the disk's.
						if in >= 0 {
							for range in {
								is(t, "Sync ahead of the failure", l.Sync(), api.OK)
							}
							is(t, "Sync", l.Sync(), api.ErrDown)
						}
					}
				}
			}
		}
	}
}

func TestCompactOfMoreThanThereIsRoomFor(t *testing.T) {
	for _, records := range [][]string{{"a"}, {"a", "b"}, {of(1000, 0)}, {of(1000, 0), of(999, 1), "x"}, {"x", of(256, 1)}} {
		b := joined(records...)
		l, d := fresh(t, len(b))
		is(t, "Compact with just room", l.Compact(slice(records)), api.OK)
		holds(t, d, b, len(b))
		// Whatever was there takes no room.
		is(t, "Compact with just room, again", l.Compact(slice(records)), api.OK)
		holds(t, d, b, len(b))
		for _, more := range [][]string{append([]string{"y"}, records...), append(slices.Clone(records), "y"), append(slices.Clone(records[1:]), records[0]+"y")} {
			want := api.ErrFull
			if slices.ContainsFunc(more, func(s string) bool { return len(s) > 1000 }) {
				want = api.ErrArg
			}
			is(t, "Compact without room", l.Compact(slice(more)), want)
			holds(t, d, b, len(b))
			knows(t, l, records...)
		}
	}
	// A byte too many.
	d := made(t, 7, framed("a"), "")
	l := opened(t, d)
	is(t, "Compact without room", l.Compact(slice([]string{"b", "c"})), api.ErrFull)
	holds(t, d, framed("a"), 4)
	// What is not durable stays so.
	d = made(t, 7, "", framed("a"))
	l = opened(t, d)
	is(t, "Compact without room", l.Compact(slice([]string{"b", "c"})), api.ErrFull)
	holds(t, d, framed("a"), 0)
	// More than there is room for on any disk.
	l, d = fresh(t, api.MaxDisk)
	is(t, "Compact without room", l.Compact(slices.Repeat([][]byte{make([]byte, 1000)}, 1046)), api.ErrFull)
	holds(t, d, "", 0)
	is(t, "Compact with room", l.Compact(slices.Repeat([][]byte{make([]byte, 1000)}, 1045)), api.OK)
	if l.Len() != 1045 {
		t.Errorf("Len %d", l.Len())
	}
}

func TestCompactOnADiskThatFails(t *testing.T) {
	for in := range 4 {
		d := made(t, 100, framed("a"), framed("b"))
		l := opened(t, d)
		want, lasts := []string{"a", "b"}, 4
		d.Fail(in)
		for i := range in {
			want, lasts = []string{of(3, i)}, 6
			is(t, "Compact ahead of the failure", l.Compact(slice(want)), api.OK)
		}
		for _, records := range [][][]byte{nil, slice([]string{"c"}), slice([]string{of(1000, 0)})} {
			is(t, "Compact", l.Compact(records), api.ErrDown)
			holds(t, d, joined(want...), lasts)
			knows(t, l, want...)
		}
	}
	// ErrDown comes ahead of ErrFull, which is a change too.
	l, d := fresh(t, 3)
	d.Fail(1)
	is(t, "Compact without room", l.Compact(slice([]string{"a"})), api.ErrFull)
	is(t, "Compact without room, where the disk fails", l.Compact(slice([]string{"a"})), api.ErrDown)
}

func TestEachCallIsOneChange(t *testing.T) {
	calls := []func(*wal.Log) api.Errno{
		func(l *wal.Log) api.Errno { return l.Append([]byte("a")) },
		func(l *wal.Log) api.Errno { return l.Append([]byte(of(1000, 0))) },
		func(l *wal.Log) api.Errno { return l.Sync() },
		func(l *wal.Log) api.Errno { return l.Compact(nil) },
		func(l *wal.Log) api.Errno { return l.Compact(slice([]string{"a", "b", "c"})) },
	}
	for i, one := range calls {
		for j, other := range calls {
			l, d := fresh(t, 5000)
			d.Fail(2)
			if a, b, c := one(l), other(l), one(l); a != api.OK || b != api.OK || c != api.ErrDown {
				t.Errorf("calls %d, %d, %d: errors %d, %d, %d", i, j, i, a, b, c)
			}
		}
	}
}

// P10.3

// TestTheExample is the chapter's.
func TestTheExample(t *testing.T) {
	l, d := fresh(t, 40)
	is(t, "Append", l.Append([]byte{1}), api.OK)
	is(t, "Sync", l.Sync(), api.OK)
	is(t, "Append", l.Append([]byte{2}), api.OK)
	d.Crash(2)
	knows(t, opened(t, d), "\x01")
	holds(t, d, "\x00\x01\x01\x5a", 4)
}

// TestCrashWithEveryKeep appends records behind what Open, Sync or Compact left,
// and takes the power away behind every byte of them.
func TestCrashWithEveryKeep(t *testing.T) {
	starts := []struct {
		name string
		made func(*wal.Log, [][]byte)
	}{
		{"Append and Sync", func(l *wal.Log, records [][]byte) {
			for _, record := range records {
				l.Append(record)
			}
			l.Sync()
		}},
		{"Compact", func(l *wal.Log, records [][]byte) {
			l.Append([]byte("what is replaced"))
			l.Compact(records)
		}},
	}
	for _, start := range starts {
		for _, before := range [][]string{nil, {"a"}, {"bc", "\x5a"}} {
			for _, after := range append(ahead()[:4], []string{"abc", of(300, 0), "d"}, []string{"\x5a\x5a\x5a", "\x00", "\x00\x00\x5a"}) {
				durable, behind := joined(before...), joined(after...)
				for keep := -1; keep <= len(behind)+2; keep++ {
					l, d := fresh(t, 1000)
					start.made(l, slice(before))
					for _, record := range after {
						is(t, "Append", l.Append([]byte(record)), api.OK)
					}
					d.Crash(keep)
					l = opened(t, d)
					kept := behind[:min(max(keep, 0), len(behind))]
					want := append(slices.Clone(before), found(kept)...)
					knows(t, l, want...)
					holds(t, d, durable+joined(found(kept)...), len(durable+joined(found(kept)...)))
					// And it goes on from there.
					is(t, "Append", l.Append([]byte("more")), api.OK)
					is(t, "Sync", l.Sync(), api.OK)
					d.Crash(0)
					knows(t, opened(t, d), append(want, "more")...)
				}
			}
		}
	}
}

func TestCrashWithGreatNumbers(t *testing.T) {
	for _, keep := range []int{math.MinInt, math.MinInt + 1, math.MaxInt, math.MaxInt - 1, 1 << 32} {
		l, d := fresh(t, 100)
		l.Append([]byte("a"))
		l.Sync()
		l.Append([]byte("b"))
		d.Crash(keep)
		if keep < 0 {
			knows(t, opened(t, d), "a")
		} else {
			knows(t, opened(t, d), "a", "b")
		}
	}
}

func TestWhatWasNotSyncedMayBeLost(t *testing.T) {
	l, d := fresh(t, 100)
	l.Append([]byte("a"))
	d.Fail(0)
	is(t, "Sync", l.Sync(), api.ErrDown)
	is(t, "Compact", l.Compact(l.Records()), api.ErrDown)
	d.Crash(0)
	knows(t, opened(t, d))
	// Open makes nothing durable where it replaces nothing.
	l.Append([]byte("b"))
	l = opened(t, d)
	knows(t, l, "b")
	d.Crash(0)
	knows(t, opened(t, d))
}

// refusals are changes that are rejected by a log on a disk with room for 20
// bytes; the last ones as the disk fails.
func refusals(d *disk.Disk) []func(*wal.Log) api.Errno {
	fails := func(call func(*wal.Log) api.Errno) func(*wal.Log) api.Errno {
		return func(l *wal.Log) api.Errno {
			d.Fail(0)
			defer d.Fail(-1)
			return call(l)
		}
	}
	return []func(*wal.Log) api.Errno{
		func(l *wal.Log) api.Errno { return l.Append(nil) },
		func(l *wal.Log) api.Errno { return l.Append(make([]byte, 1001)) },
		func(l *wal.Log) api.Errno { return l.Append(make([]byte, 18)) },
		func(l *wal.Log) api.Errno { return l.Append(make([]byte, 1000)) },
		func(l *wal.Log) api.Errno { return l.Compact([][]byte{{1}, nil, {2}}) },
		func(l *wal.Log) api.Errno { return l.Compact([][]byte{make([]byte, 1001)}) },
		func(l *wal.Log) api.Errno { return l.Compact([][]byte{{1}, make([]byte, 14)}) },
		fails(func(l *wal.Log) api.Errno { return l.Append([]byte("x")) }),
		fails((*wal.Log).Sync),
		fails(func(l *wal.Log) api.Errno { return l.Compact(nil) }),
		fails(func(l *wal.Log) api.Errno { return l.Compact([][]byte{{1}}) }),
	}
}

func TestWhatWasRejectedChangesNothing(t *testing.T) {
	for keep := -1; keep < 12; keep++ {
		for i := range refusals(nil) {
			for j := range refusals(nil) {
				l, d := fresh(t, 20)
				one, other := refusals(d)[i], refusals(d)[j]
				l.Append([]byte("a"))
				l.Sync()
				l.Append([]byte("bc"))
				if a, b := one(l), other(l); a == api.OK || b == api.OK {
					t.Fatalf("changes %d and %d were not both rejected: errors %d, %d", i, j, a, b)
				}
				holds(t, d, joined("a", "bc"), 4)
				knows(t, l, "a", "bc")
				d.Crash(keep)
				want := []string{"a", "bc"}
				if keep < 5 {
					want = want[:1]
				}
				knows(t, opened(t, d), want...)
			}
		}
	}
}

// theorem does random changes on a log, and a crash behind them, and holds what
// Open finds then against what was appended, and what was synced.
func theorem(t *testing.T, r *rand.Rand) {
	t.Helper()
	l, d := fresh(t, 20+r.Intn(200))
	var appended []string
	synced := 0
	for range r.Intn(20) {
		record := of(r.Intn(30), r.Intn(256))
		switch r.Intn(8) {
		case 0, 1, 2, 3:
			if l.Append([]byte(record)) == api.OK {
				appended = append(appended, record)
			}
		case 4, 5:
			if l.Sync() == api.OK {
				synced = len(appended)
			}
		case 6:
			records := []string{record, of(r.Intn(5), 3)}[:r.Intn(3)]
			if l.Compact(slice(records)) == api.OK {
				appended, synced = records, len(records)
			}
		case 7:
			d.Fail(r.Intn(6) - 1)
		}
	}
	d.Crash(r.Intn(60) - 1)
	got := opened(t, d).Records()
	if len(got) < synced || len(got) > len(appended) {
		t.Fatalf("after a crash %d records, of %d, %d of them synced", len(got), len(appended), synced)
	}
	for i, record := range got {
		if string(record) != appended[i] {
			t.Fatalf("after a crash record %d is %q, want %q", i, record, appended[i])
		}
	}
}

func TestAnyCrash(t *testing.T) {
	r := rand.New(rand.NewSource(1))
	for range 20000 {
		theorem(t, r)
	}
}

// All of it, against a model

// model is a log's disk by the document's words: what is durable, what was
// appended after it; and, if changes fail, how many are performed before.
type model struct {
	room           int
	durable, after string
	fails          bool
	in             int
}

// change is what comes of a change, for which there must be room for n bytes.
func (m *model) change(n int) api.Errno {
	if m.fails {
		if m.in == 0 {
			return api.ErrDown
		}
		m.in--
	}
	if n > m.room {
		return api.ErrFull
	}
	return api.OK
}

// add appends bytes to the disk.
func (m *model) add(b string) api.Errno {
	e := m.change(len(m.durable) + len(m.after) + len(b))
	if e == api.OK {
		m.after += b
	}
	return e
}

// swap replaces the disk's bytes.
func (m *model) swap(b string) api.Errno {
	e := m.change(len(b))
	if e == api.OK {
		m.durable, m.after = b, ""
	}
	return e
}

// deed is a call, of a log's or its disk's.
type deed struct {
	call    string
	n       int // which log it is a call of; or the number of Fail or Crash
	records []string
}

func (x deed) String() string { return fmt.Sprintf("%s(%d, %.20q)", x.call, x.n, x.records) }

// legal reports whether each of the records may be one.
func legal(records []string) bool {
	return !slices.ContainsFunc(records, func(s string) bool { return len(s) < 1 || len(s) > 1000 })
}

// do does a deed on the model.
func (m *model) do(x deed) api.Errno {
	switch x.call {
	case "Open":
		if whole := joined(found(m.durable + m.after)...); whole != m.durable+m.after {
			return m.swap(whole)
		}
	case "Append":
		if !legal(x.records) {
			return api.ErrArg
		}
		return m.add(joined(x.records...))
	case "Sync":
		e := m.change(0)
		if e == api.OK {
			m.durable, m.after = m.durable+m.after, ""
		}
		return e
	case "Compact":
		if !legal(x.records) {
			return api.ErrArg
		}
		return m.swap(joined(x.records...))
	case "disk.Append":
		return m.add(x.records[0])
	case "disk.Swap":
		return m.swap(x.records[0])
	case "Fail":
		m.fails, m.in = x.n >= 0, x.n
	case "Crash":
		kept := m.after[:min(max(x.n, 0), len(m.after))]
		m.durable, m.after, m.fails = m.durable+kept, "", false
	}
	return api.OK
}

// pair is two logs on one disk.
type pair struct {
	d    *disk.Disk
	logs [2]*wal.Log
}

// do does a deed on the two logs and their disk. Where Open fails, the log that
// there was goes on.
func (p *pair) do(x deed) api.Errno {
	switch x.call {
	case "Open":
		l, e := wal.Open(p.d)
		if e == api.OK {
			p.logs[x.n] = l
		}
		return e
	case "Append":
		return p.logs[x.n].Append([]byte(x.records[0]))
	case "Sync":
		return p.logs[x.n].Sync()
	case "Compact":
		return p.logs[x.n].Compact(slice(x.records))
	case "disk.Append":
		return p.d.Append([]byte(x.records[0]))
	case "disk.Swap":
		return p.d.Swap([]byte(x.records[0]))
	case "Fail":
		p.d.Fail(x.n)
	case "Crash":
		p.d.Crash(x.n)
	}
	return api.OK
}

// same does deeds on two logs of one disk and on its model, and holds them
// against each other after each.
func same(t *testing.T, room int, deeds []deed) {
	t.Helper()
	d := made(t, room, "", "")
	p := pair{d, [2]*wal.Log{opened(t, d), opened(t, d)}}
	m := model{room: room}
	for i, x := range deeds {
		if got, want := p.do(x), m.do(x); got != want {
			t.Fatalf("room %d, deed %d of %v: error %d, want %d", room, i, deeds, got, want)
		}
		holds(t, d, m.durable+m.after, len(m.durable))
		knows(t, p.logs[0], found(m.durable+m.after)...)
		knows(t, p.logs[1], found(m.durable+m.after)...)
	}
}

// anyRecord is a random record for a disk of this room, in some cases none that
// may be one.
func anyRecord(r *rand.Rand, room int) string {
	switch r.Intn(20) {
	case 0:
		return ""
	case 1:
		return of(998+r.Intn(5), r.Intn(256))
	case 2:
		return of(r.Intn(room), r.Intn(256))
	}
	b := make([]byte, 1+r.Intn(6))
	for i := range b {
		b[i] = []byte{0, 1, 2, 90, byte(r.Intn(256))}[r.Intn(5)]
	}
	return string(b)
}

// anyDeed is a random deed on a disk of this room.
func anyDeed(r *rand.Rand, room int) deed {
	log, number := r.Intn(2), r.Intn(14)-1
	switch r.Intn(16) {
	case 0, 1, 2, 3, 4, 5:
		return deed{"Append", log, []string{anyRecord(r, room)}}
	case 6, 7:
		return deed{"Sync", log, nil}
	case 8, 9:
		records := make([]string, r.Intn(4))
		for i := range records {
			records[i] = anyRecord(r, room)
		}
		return deed{"Compact", log, records}
	case 10, 11:
		return deed{"Open", log, nil}
	case 12:
		return deed{"Fail", number, nil}
	case 13:
		b := framed(anyRecord(r, room))
		return deed{[]string{"disk.Append", "disk.Swap"}[r.Intn(2)], 0, []string{b[:r.Intn(len(b)+1)]}}
	}
	return deed{"Crash", number, nil}
}

func TestAnyDeeds(t *testing.T) {
	r := rand.New(rand.NewSource(2))
	for range 3000 {
		room := 1 + r.Intn(60)
		if r.Intn(4) == 0 {
			room = 900 + r.Intn(3000)
		}
		deeds := make([]deed, 40)
		for i := range deeds {
			deeds[i] = anyDeed(r, room)
		}
		same(t, room, deeds)
	}
}

// R3: a disk is used directly.

func TestTwoLogsOnOneDisk(t *testing.T) {
	d := made(t, 100, "", "")
	one, other := opened(t, d), opened(t, d)
	one.Append([]byte("a"))
	other.Append([]byte("b"))
	one.Append([]byte("c"))
	for _, l := range []*wal.Log{one, other} {
		knows(t, l, "a", "b", "c")
	}
	is(t, "Sync", other.Sync(), api.OK)
	holds(t, d, joined("a", "b", "c"), 12)
	is(t, "Compact", one.Compact(slice([]string{"d"})), api.OK)
	knows(t, other, "d")
	d.Append([]byte("\x00\x02"))
	is(t, "Append behind a piece", other.Append([]byte("e")), api.OK)
	knows(t, one, "d")
	third := opened(t, d)
	for _, l := range []*wal.Log{one, other, third} {
		knows(t, l, "d")
	}
	holds(t, d, framed("d"), 4)
	d.Fail(0)
	for _, l := range []*wal.Log{one, other, third} {
		is(t, "Append", l.Append([]byte("x")), api.ErrDown)
	}
}

func TestLogsOfTwoDisksAreApart(t *testing.T) {
	one, d := fresh(t, 100)
	other, e := fresh(t, 8)
	one.Append([]byte("a"))
	other.Append([]byte("b"))
	other.Sync()
	d.Fail(0)
	is(t, "Append", other.Append([]byte("c")), api.OK)
	is(t, "Append", other.Append([]byte("d")), api.ErrFull)
	knows(t, one, "a")
	knows(t, other, "b", "c")
	// Records of one may go to the other.
	d.Crash(0)
	is(t, "Compact", one.Compact(other.Records()), api.OK)
	e.Swap(nil)
	knows(t, one, "b", "c")
	knows(t, other)
}

// R3: bytes are separated.

func TestARecordThatWasAppendedMayChange(t *testing.T) {
	for _, many := range []int{1, 2, 256, 1000} {
		l, d := fresh(t, 5000)
		whole := []byte(of(many, 1) + "rest")
		b := whole[:many]
		l.Append(b)
		l.Append(b)
		if string(whole) != of(many, 1)+"rest" {
			t.Fatalf("Append changed the caller's bytes: %.40q", whole)
		}
		clear(whole)
		l.Append([]byte("x"))
		knows(t, l, of(many, 1), of(many, 1), "x")
		l.Sync()
		d.Crash(0)
		knows(t, opened(t, d), of(many, 1), of(many, 1), "x")
		if string(whole) != strings.Repeat("\x00", many+4) {
			t.Fatalf("the log wrote to the caller's bytes: %.40q", whole)
		}
	}
}

func TestRecordsOfCompactMayChange(t *testing.T) {
	l, d := fresh(t, 5000)
	want := []string{"a", of(1000, 1), "bc"}
	records := append(slice(want), []byte("rest"))
	is(t, "Compact", l.Compact(records[:3]), api.OK)
	for i, text := range append(slices.Clone(want), "rest") {
		if string(records[i]) != text {
			t.Fatalf("Compact changed the caller's record %d: %.40q", i, records[i])
		}
	}
	for _, record := range records {
		clear(record)
	}
	clear(records)
	l.Append([]byte("x"))
	knows(t, l, append(want, "x")...)
	d.Crash(0)
	knows(t, opened(t, d), want...)
}

func TestRecordsThatWereRefusedAreNotModified(t *testing.T) {
	l, _ := fresh(t, 8)
	for _, records := range [][]string{{"abc", "", "de"}, {"abc", "def"}, {"abc", of(1001, 0)}} {
		b := slice(records)
		if e := l.Compact(b); e == api.OK {
			t.Fatalf("Compact of %.60q was not refused", records)
		}
		for i, record := range b {
			if string(record) != records[i] {
				t.Errorf("record %d is %.40q, want %.40q", i, record, records[i])
			}
			l.Append(record)
			if string(record) != records[i] {
				t.Errorf("record %d is %.40q, want %.40q", i, record, records[i])
			}
		}
	}
}

func TestRecordsThatWereReturnedMayChange(t *testing.T) {
	want := []string{"a", "bcd", "\x5a", of(1000, 0)}
	for i := range want {
		l, d := fresh(t, 5000)
		l.Compact(slice(want))
		other := l.Records()
		got := l.Records()
		clear(got[i])
		got[i] = append(got[i], "more than there is room for"...)
		for j, record := range got {
			if j != i && string(record) != want[j] {
				t.Fatalf("record %d changed with record %d: %.40q", j, i, record)
			}
		}
		clear(got)
		knows(t, l, want...)
		holds(t, d, joined(want...), len(joined(want...)))
		// Nor do those of another call change, with them or with the log.
		l.Append([]byte("x"))
		l.Compact(nil)
		d.Swap([]byte(full(2000)))
		for j, record := range other {
			if string(record) != want[j] {
				t.Fatalf("record %d of another call changed: %.40q", j, record)
			}
		}
	}
}

// FuzzLog takes a byte for the room, and then two for each deed.
func FuzzLog(f *testing.F) {
	f.Add([]byte{40, 0, 1, 1, 0, 0, 1, 6, 3, 3, 0})
	f.Add([]byte{12, 2, 3, 4, 5, 3, 0, 5, 1, 1, 0, 7, 2, 3, 1})
	f.Fuzz(func(t *testing.T, code []byte) {
		if len(code) == 0 {
			return
		}
		var deeds []deed
		for i := 1; i+1 < len(code); i += 2 {
			log, n := i/2%2, int(code[i+1])
			deeds = append(deeds, []deed{
				{"Append", log, []string{of(n, i)}},
				{"Sync", log, nil},
				{"Compact", log, []string{of(n, i), of(n/2, i), of(3, n)}[:n%4]},
				{"Open", log, nil},
				{"disk.Append", 0, []string{framed(of(n, i))[:n]}},
				{"Fail", n - 1, nil},
				{"Crash", n - 1, nil},
				{"disk.Swap", 0, []string{framed(of(n, 90))[:n/2]}},
			}[code[i]%8])
		}
		same(t, int(code[0])*4+1, deeds)
	})
}
