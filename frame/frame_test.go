package frame_test

import (
	"bytes"
	"fmt"
	"math/rand"
	"strings"
	"testing"

	"lessor/api"
	"lessor/frame"
)

// of is a record that is many bytes long, each of them different from those
// beside it, and told apart from other records' by its first.
func of(many, start int) string {
	b := make([]byte, many)
	for i := range b {
		b[i] = byte(start + i*7)
	}
	return string(b)
}

// framed is the frame of a record of 1 to 1000 bytes by the document's words.
func framed(record string) string {
	return string([]byte{byte(len(record) / 256), byte(len(record) % 256)}) + record + "\x5a"
}

// joined is the frames of records, in order.
func joined(records []string) string {
	var b strings.Builder
	for _, record := range records {
		b.WriteString(framed(record))
	}
	return b.String()
}

// put is what Put returns for a record of 1 to 1000 bytes.
func put(t *testing.T, record string) string {
	t.Helper()
	b, e := frame.Put([]byte(record))
	if e != api.OK {
		t.Fatalf("Put of %d bytes %.40q: error %d", len(record), record, e)
	}
	return string(b)
}

// scans checks what Scan returns for b.
func scans(t *testing.T, b string, want []string, total int) {
	t.Helper()
	l, n := frame.Scan([]byte(b))
	if n != total {
		t.Fatalf("Scan of %d bytes %.60q: total length %d, want %d", len(b), b, n, total)
	}
	if len(l) != len(want) {
		t.Fatalf("Scan of %d bytes %.60q: %d records, want %d", len(b), b, len(l), len(want))
	}
	for i, record := range l {
		if string(record) != want[i] {
			t.Fatalf("Scan of %d bytes %.60q: record %d is %.60q, want %.60q", len(b), b, i, record, want[i])
		}
	}
}

// model is what Scan returns by the document's words: as long as b begins with
// the frame of a record of 1 to 1000 bytes, that record.
func model(b string) ([]string, int) {
	var l []string
	total := 0
	for record := begins(b); record != ""; record = begins(b) {
		l = append(l, record)
		b = strings.TrimPrefix(b, framed(record))
		total += len(framed(record))
	}
	return l, total
}

// begins is the record with whose frame b begins, or nothing. It is found by
// trial of all lengths, each of which is laid down as the document says it.
func begins(b string) string {
	for many := 1; many <= 1000 && many+3 <= len(b); many++ {
		record := b[2 : 2+many]
		if b[1] == byte(many%256) && strings.HasPrefix(b, framed(record)) {
			return record
		}
	}
	return ""
}

// same holds Scan of b against the model.
func same(t *testing.T, b string) {
	t.Helper()
	l, n := model(b)
	scans(t, b, l, n)
}

// sizes are the lengths of records at the edges, and some others.
func sizes() []int {
	return []int{1, 2, 3, 89, 90, 91, 127, 128, 254, 255, 256, 257, 511, 512, 513, 768, 998, 999, 1000}
}

// P9.1: Put

func TestPutOfKnownRecords(t *testing.T) {
	for _, c := range []struct{ record, want string }{
		{"\x07", "\x00\x01\x07\x5a"}, // the chapter's example
		{"\x00", "\x00\x01\x00\x5a"},
		{"\xff", "\x00\x01\xff\x5a"},
		{"\x5a", "\x00\x01\x5a\x5a"},
		{"ab", "\x00\x02ab\x5a"},
		{"\x00\x01\x07\x5a", "\x00\x04\x00\x01\x07\x5a\x5a"},
		{of(90, 0), "\x00\x5a" + of(90, 0) + "\x5a"},
		{of(255, 1), "\x00\xff" + of(255, 1) + "\x5a"},
		{of(256, 2), "\x01\x00" + of(256, 2) + "\x5a"},
		{of(257, 3), "\x01\x01" + of(257, 3) + "\x5a"},
		{of(511, 4), "\x01\xff" + of(511, 4) + "\x5a"},
		{of(512, 5), "\x02\x00" + of(512, 5) + "\x5a"},
		{of(999, 6), "\x03\xe7" + of(999, 6) + "\x5a"},
		{of(1000, 7), "\x03\xe8" + of(1000, 7) + "\x5a"},
	} {
		if got := put(t, c.record); got != c.want {
			t.Errorf("Put of %d bytes %.40q: %.40q, want %.40q", len(c.record), c.record, got, c.want)
		}
	}
}

func TestPutOfEveryByteAndLength(t *testing.T) {
	for c := range 256 {
		record := string([]byte{byte(c)})
		if got := put(t, record); got != framed(record) {
			t.Errorf("Put of the byte %d: %q", c, got)
		}
	}
	for many := 1; many <= 1000; many++ {
		record := of(many, many)
		got := put(t, record)
		if got != framed(record) {
			t.Fatalf("Put of %d bytes: %.40q", many, got)
		}
		scans(t, got, []string{record}, many+3)
	}
}

func TestPutRefusesOtherLengths(t *testing.T) {
	refuse := func(b []byte) {
		t.Helper()
		f, e := frame.Put(b)
		if e != api.ErrArg || len(f) != 0 {
			t.Errorf("Put of %d bytes: %d bytes, error %d, want none, and ErrArg", len(b), len(f), e)
		}
	}
	refuse(nil)
	refuse([]byte{})
	refuse([]byte("abc")[:0])
	// The lengths whose last bits, or last bytes, are those of a right one too.
	for _, many := range []int{1001, 1002, 1023, 1024, 1025, 2000, 1 << 15, 1<<15 + 1, 65535, 65536, 65537, 65536 + 1000, 1 << 20, 1<<24 + 1} {
		refuse(make([]byte, many))
	}
	for many := 1001; many <= 1300; many++ {
		refuse([]byte(of(many, 0)))
	}
}

// P9.1: Scan

func TestScanOfKnownBytes(t *testing.T) {
	for _, c := range []struct {
		b       string
		records []string
		total   int
	}{
		// The chapter's example.
		{"\x00\x01\x07\x5a\x00\x02\x08", []string{"\x07"}, 4},
		// None.
		{"", nil, 0},
		{"\x00", nil, 0}, {"\x01", nil, 0}, {"\x5a", nil, 0}, {"\xff", nil, 0},
		{"\x00\x00", nil, 0}, {"\x00\x01", nil, 0}, {"\x5a\x5a", nil, 0}, {"\xff\xff", nil, 0},
		{"\x00\x01\x07", nil, 0}, {"\x00\x01\x5a", nil, 0},
		// One, and some that follow one another.
		{"\x00\x01\x07\x5a", []string{"\x07"}, 4},
		{"\x00\x02ab\x5a", []string{"ab"}, 5},
		{"\x00\x01a\x5a\x00\x01b\x5a", []string{"a", "b"}, 8},
		{"\x00\x01b\x5a\x00\x01a\x5a\x00\x01b\x5a", []string{"b", "a", "b"}, 12},
		{"\x00\x03abc\x5a\x00\x01d\x5a\x00\x02ef\x5a", []string{"abc", "d", "ef"}, 15},
		// A length of 0, with and without an end mark.
		{"\x00\x00\x5a", nil, 0},
		{"\x00\x00\x5a\x5a", nil, 0},
		{"\x00\x00a\x5a", nil, 0},
		{"\x00\x01a\x5a\x00\x00\x5a", []string{"a"}, 4},
		// An end mark that is not 90.
		{"\x00\x01\x07\x5b", nil, 0}, {"\x00\x01\x07\x59", nil, 0}, {"\x00\x01\x07\x00", nil, 0},
		{"\x00\x01\x07\xda", nil, 0}, {"\x00\x01\x07z", nil, 0}, {"\x00\x01\x07\x5b\x5a", nil, 0},
		{"\x00\x02ab\x00\x00\x01c\x5a", nil, 0},
		{"\x00\x01\x5a\x07", nil, 0},
		// The bytes of the length the other way round.
		{"\x01\x00\x07\x5a", nil, 0},
		{"\x01\x00" + of(255, 0) + "\x5a", nil, 0},
		{"\x01\x00" + of(256, 0) + "\x5a", []string{of(256, 0)}, 259},
		{"\x01\x02" + of(258, 0) + "\x5a", []string{of(258, 0)}, 261},
		{"\x02\x01" + of(513, 0) + "\x5a", []string{of(513, 0)}, 516},
		// Records that hold the byte 90, or whole frames.
		{"\x00\x01\x5a\x5a", []string{"\x5a"}, 4},
		{"\x00\x03\x5a\x5a\x5a\x5a", []string{"\x5a\x5a\x5a"}, 6},
		{"\x00\x04\x00\x01\x07\x5a\x5a", []string{"\x00\x01\x07\x5a"}, 7},
		{"\x00\x03\x00\x00\x5a\x5a\x00\x01\x5a\x5a", []string{"\x00\x00\x5a", "\x5a"}, 10},
		{"\x00\x5a" + strings.Repeat("\x5a", 91), []string{strings.Repeat("\x5a", 90)}, 93},
		{"\x5a\x5a" + strings.Repeat("\x5a", 0x5a5a+1), nil, 0},
	} {
		scans(t, c.b, c.records, c.total)
	}
}

func TestScanOfNil(t *testing.T) {
	if l, n := frame.Scan(nil); len(l) != 0 || n != 0 {
		t.Errorf("Scan(nil): %d records, %d", len(l), n)
	}
}

func TestScanOfFewerBytesThanAnyFrameHas(t *testing.T) {
	for i := range 256 {
		one := []byte{byte(i)}
		scans(t, string(one), nil, 0)
		for j := range 256 {
			scans(t, string(append(one, byte(j))), nil, 0)
			scans(t, string(append(one, byte(j), 90)), nil, 0)
		}
	}
}

func TestScanOfEveryLength(t *testing.T) {
	// Of every number that the 2 bytes may be, with so many bytes behind them,
	// and the end mark: 1 to 1000 alone are the length of a record.
	b := bytes.Repeat([]byte("x"), 65535+3)
	for many := range 65536 {
		b[0], b[1], b[2+many] = byte(many>>8), byte(many), 90
		l, n := frame.Scan(b[:many+3])
		switch {
		case many < 1 || many > 1000:
			if len(l) != 0 || n != 0 {
				t.Fatalf("length %d: %d records, %d", many, len(l), n)
			}
		case len(l) != 1 || n != many+3 || !bytes.Equal(l[0], b[2:2+many]):
			t.Fatalf("length %d: %d records, %d", many, len(l), n)
		}
		b[2+many] = 'x'
	}
}

func TestScanOfEveryEndMark(t *testing.T) {
	for _, record := range []string{"\x07", "\x5a", "ab", of(256, 0), of(1000, 0)} {
		for c := range 256 {
			b := framed(record)
			b = b[:len(b)-1] + string([]byte{byte(c)})
			if c == 90 {
				scans(t, b+"\x00\x01", []string{record}, len(b))
			} else {
				scans(t, b, nil, 0)
				scans(t, b+"\x5a", nil, 0)
				scans(t, b+framed("a"), nil, 0)
				scans(t, framed("a")+b, []string{"a"}, 4)
			}
		}
	}
}

func TestScanOfAllSizes(t *testing.T) {
	var all []string
	for i, many := range sizes() {
		all = append(all, of(many, i))
		scans(t, joined(all), all, len(joined(all)))
		for j, other := range sizes() {
			two := []string{of(many, i), of(other, j+1)}
			scans(t, joined(two), two, many+other+6)
		}
	}
}

func TestScanOfManyFrames(t *testing.T) {
	records := make([]string, 100000)
	for i := range records {
		records[i] = of(1+i%5, i)
	}
	b := joined(records)
	scans(t, b, records, len(b))
	scans(t, b[:len(b)-1], records[:len(records)-1], len(b)-len(framed(records[len(records)-1])))
}

// P9.1, against the model

func TestScanOfAllShortBytes(t *testing.T) {
	letters := "\x00\x01\x02\x03\x5a\xff"
	var extend func(b string, more int)
	extend = func(b string, more int) {
		same(t, b)
		for i := 0; i < len(letters) && more > 0; i++ {
			extend(b+letters[i:i+1], more-1)
		}
	}
	extend("", 6)
}

// anyRecord is a random record of 1 to 1000 bytes, many of which are those of
// frames.
func anyRecord(r *rand.Rand) string {
	many := 1 + r.Intn(8)
	switch r.Intn(8) {
	case 0:
		many = sizes()[r.Intn(len(sizes()))]
	case 1:
		many = 1 + r.Intn(1000)
	}
	b := make([]byte, many)
	for i := range b {
		b[i] = []byte{0, 1, 2, 90, byte(r.Intn(256))}[r.Intn(5)]
	}
	return string(b)
}

// anyRecords are random records.
func anyRecords(r *rand.Rand) []string {
	l := make([]string, r.Intn(8))
	for i := range l {
		l[i] = anyRecord(r)
	}
	return l
}

func TestScanOfAnyBytes(t *testing.T) {
	r := rand.New(rand.NewSource(1))
	for range 20000 {
		b := []byte(joined(anyRecords(r)))
		for range r.Intn(3) {
			if len(b) == 0 {
				continue
			}
			at := r.Intn(len(b))
			switch r.Intn(4) {
			case 0:
				b[at] = byte(r.Intn(256))
			case 1:
				b = b[:at]
			case 2:
				b = append(b[:at], b[at+1:]...)
			case 3:
				b = append(b[:at+1], b[at:]...)
			}
		}
		same(t, string(b))
	}
	for range 20000 {
		b := make([]byte, r.Intn(2000))
		for i := range b {
			b[i] = []byte{0, 0, 1, 90, byte(r.Intn(256))}[r.Intn(5)]
		}
		same(t, string(b))
	}
}

// P9.2

// complete is how many of the records have a complete frame in the first cut
// bytes of all frames, and how many bytes these have.
func complete(records []string, cut int) (many, total int) {
	for _, record := range records {
		if total+len(record)+3 > cut {
			break
		}
		total += len(record) + 3
		many++
	}
	return many, total
}

// truncated checks Scan of the frames of records, cut off behind every byte.
func truncated(t *testing.T, records []string) {
	t.Helper()
	var b []byte
	for _, record := range records {
		b = append(b, put(t, record)...)
	}
	for cut := range len(b) + 1 {
		many, total := complete(records, cut)
		scans(t, string(b[:cut]), records[:many], total)
	}
}

func TestTruncatedWithinEachPartOfAFrame(t *testing.T) {
	b := framed("a") + framed("bcd")
	for _, c := range []struct {
		where string
		cut   int
		many  int
		total int
	}{
		{"ahead of all", 0, 0, 0},
		{"within the first length", 1, 0, 0},
		{"ahead of the first record", 2, 0, 0},
		{"ahead of the first end mark", 3, 0, 0},
		{"right behind the first end mark", 4, 1, 4},
		{"within the second length", 5, 1, 4},
		{"ahead of the second record", 6, 1, 4},
		{"within the second record", 7, 1, 4},
		{"within the second record", 8, 1, 4},
		{"ahead of the second end mark", 9, 1, 4},
		{"right behind the second end mark", 10, 2, 10},
	} {
		t.Run(fmt.Sprint(c.where, " ", c.cut), func(t *testing.T) {
			scans(t, b[:c.cut], []string{"a", "bcd"}[:c.many], c.total)
		})
	}
}

func TestTruncatedAtAnyPoint(t *testing.T) {
	truncated(t, nil)
	for i, many := range sizes() {
		truncated(t, []string{of(many, i)})
		truncated(t, []string{of(3, 0), of(many, i), of(2, 5)})
		truncated(t, []string{strings.Repeat("\x5a", many), strings.Repeat("\x5a", 3)})
		truncated(t, []string{strings.Repeat("\x00", many), "\x00"})
	}
	truncated(t, []string{of(1000, 1), of(1, 2), of(999, 3), of(256, 4), of(255, 5)})
	r := rand.New(rand.NewSource(2))
	for range 200 {
		truncated(t, anyRecords(r))
	}
}

// TestTruncatedBytesAreNotLookedAt lays the bytes that were cut off behind the
// slice's end, where they can still be reached.
func TestTruncatedBytesAreNotLookedAt(t *testing.T) {
	whole := []byte(framed("ab") + framed("c"))
	for cut := range len(whole) + 1 {
		many, total := complete([]string{"ab", "c"}, cut)
		if l, n := frame.Scan(whole[:cut]); len(l) != many || n != total {
			t.Errorf("cut off behind %d bytes: %d records, %d; want %d, %d", cut, len(l), n, many, total)
		}
	}
}

// faults are bytes at whose beginning there is no complete frame, whatever
// follows them.
func faults() []string {
	return []string{
		"\x00\x00", "\x00\x00\x5a", "\x00\x00\x5a\x5a", "\x00\x00\x00\x5a",
		"\x03\xe9" + of(1001, 0) + "\x5a", "\x03\xff" + of(1023, 0) + "\x5a", "\x04\x01" + of(1025, 0) + "\x5a",
		"\x7f\xff", "\x80\x00", "\x80\x01a\x5a", "\x83\xe8" + of(1000, 0) + "\x5a", "\xff\xff", "\xff\xff\xff\xff",
		"\x00\x01a\x00", "\x00\x01a\x5b", "\x00\x01\x5a\x59", "\x00\x02ab\x00", "\x00\x01ab\x5a", "\x00\x02abc\x5a",
		"\x01\x00" + of(256, 0) + "\x00", "\x03\xe8" + of(1000, 0) + "\x5b",
		"\x5a\x5a\x5a", "\x5a\x00\x01a\x5a", "\xff" + strings.Repeat("\x5a", 70000),
	}
}

func TestAFaultBehindCompleteFrames(t *testing.T) {
	r := rand.New(rand.NewSource(3))
	for _, fault := range faults() {
		for range 20 {
			records := anyRecords(r)
			b := joined(records)
			scans(t, b+fault, records, len(b))
		}
	}
}

func TestCompleteFramesBehindAFault(t *testing.T) {
	for _, fault := range faults() {
		for _, behind := range []string{framed("a"), framed("abc") + framed("d"), framed(of(1000, 0)), strings.Repeat(framed("\x5a"), 300)} {
			scans(t, fault+behind, nil, 0)
			scans(t, framed("x")+framed("yz")+fault+behind, []string{"x", "yz"}, 9)
		}
	}
}

func TestWhatFollowsDoesNotAffectThoseBefore(t *testing.T) {
	r := rand.New(rand.NewSource(4))
	for range 2000 {
		records := anyRecords(r)
		b := joined(records)
		rest := make([]byte, r.Intn(40))
		for i := range rest {
			rest[i] = []byte{0, 1, 90, byte(r.Intn(256))}[r.Intn(4)]
		}
		l, n := frame.Scan([]byte(b + string(rest)))
		more, total := frame.Scan(rest)
		if n != len(b)+total || len(l) != len(records)+len(more) {
			t.Fatalf("%d records of %d bytes, and %q: %d records, %d", len(records), len(b), rest, len(l), n)
		}
		for i, record := range append(records, texts(more)...) {
			if string(l[i]) != record {
				t.Fatalf("record %d of %d, with %q behind: %.40q, want %.40q", i, len(records), rest, l[i], record)
			}
		}
	}
}

// texts is records as texts.
func texts(l [][]byte) []string {
	var out []string
	for _, b := range l {
		out = append(out, string(b))
	}
	return out
}

// What was scanned is put in the same form.

func TestPutOfWhatWasScanned(t *testing.T) {
	r := rand.New(rand.NewSource(5))
	for range 2000 {
		b := make([]byte, r.Intn(300))
		for i := range b {
			b[i] = []byte{0, 1, 90}[r.Intn(3)]
		}
		check(t, append([]byte(joined(anyRecords(r))), b...))
	}
}

// check checks of any bytes that the frames of the records that Scan returns are
// those at their beginning, and that none follows.
func check(t *testing.T, b []byte) {
	t.Helper()
	l, n := frame.Scan(b)
	var again []byte
	for _, record := range l {
		again = append(again, put(t, string(record))...)
	}
	if n < 0 || n > len(b) || !bytes.Equal(again, b[:n]) {
		t.Fatalf("Scan of %.60q: %d records, whose frames are %.60q, and %d", b, len(l), again, n)
	}
	if more, m := frame.Scan(b[n:]); len(more) != 0 || m != 0 {
		t.Fatalf("behind what Scan of %.60q comprises, %d records follow", b, len(more))
	}
	same(t, string(b))
}

func FuzzScan(f *testing.F) {
	f.Add([]byte("\x00\x01\x07\x5a\x00\x02\x08"))
	f.Add([]byte(framed(of(256, 0)) + framed("\x5a")))
	f.Add([]byte(framed("a") + "\x00\x00\x5a" + framed("b")))
	f.Fuzz(func(t *testing.T, b []byte) { check(t, b) })
}

// R3: nothing shares memory.

// spoil overwrites all that can be reached of b, up to its capacity.
func spoil(b []byte) {
	b = b[:cap(b)]
	for i := range b {
		b[i] = 0xee
	}
}

func TestBytesHandedToPutMayChange(t *testing.T) {
	for _, many := range sizes() {
		record := of(many, 3)
		b := []byte(record)
		f, _ := frame.Put(b)
		if string(b) != record {
			t.Fatalf("Put of %d bytes changed them", many)
		}
		spoil(b)
		if string(f) != framed(record) {
			t.Fatalf("the frame of %d bytes changed with them: %.40q", many, f)
		}
	}
}

func TestBytesOfPutMayChange(t *testing.T) {
	for _, many := range sizes() {
		record := of(many, 3)
		b := []byte(record + "rest")
		one, _ := frame.Put(b[:many])
		other, _ := frame.Put(b[:many])
		spoil(one)
		if string(b) != record+"rest" {
			t.Fatalf("%d bytes changed with their frame, or what lies behind them did: %.40q", many, b)
		}
		if string(other) != framed(record) {
			t.Fatalf("a frame of %d bytes changed with another one: %.40q", many, other)
		}
	}
}

func TestBytesHandedToScanMayChange(t *testing.T) {
	for _, many := range sizes() {
		records := []string{of(many, 1), of(1, 2), of(many, 3)}
		whole := joined(records) + "\x00\x02x"
		b := []byte(whole + "rest")
		l, n := frame.Scan(b[:len(whole)])
		if string(b) != whole+"rest" {
			t.Fatalf("Scan of records of %d bytes changed its argument", many)
		}
		spoil(b)
		if n != len(whole)-3 || strings.Join(texts(l), "|") != strings.Join(records, "|") {
			t.Fatalf("records of %d bytes changed with the bytes that were scanned", many)
		}
	}
}

func TestRecordsOfScanMayChange(t *testing.T) {
	for _, many := range sizes() {
		records := []string{of(many, 1), of(2, 2), of(many, 3), of(1, 4)}
		whole := joined(records)
		b := []byte(whole)
		other, _ := frame.Scan(b)
		for i := range records {
			l, _ := frame.Scan(b)
			spoil(l[i])
			l[i] = append(l[i], "more than there is room for"...)
			for j, record := range l {
				if j != i && string(record) != records[j] {
					t.Fatalf("record %d changed with record %d: %.40q", j, i, record)
				}
			}
			clear(l[:cap(l)])
		}
		if string(b) != whole {
			t.Fatalf("the bytes that were scanned changed with the records")
		}
		if strings.Join(texts(other), "|") != strings.Join(records, "|") {
			t.Fatalf("the records of one Scan changed with those of another")
		}
	}
}

// R4: nothing is kept from call to call.

func TestCallsAreApart(t *testing.T) {
	for range 3 {
		if got := put(t, "ab"); got != framed("ab") {
			t.Errorf("Put: %q", got)
		}
		scans(t, framed("ab")+framed("c"), []string{"ab", "c"}, 9)
		if _, e := frame.Put(nil); e != api.ErrArg {
			t.Errorf("Put(nil): error %d", e)
		}
		scans(t, "\x00\x02a", nil, 0)
		scans(t, "b\x5a", nil, 0)
	}
}

// P1: great arguments

func TestGreatArguments(t *testing.T) {
	b := make([]byte, 1<<24)
	scans(t, string(b), nil, 0)
	for i := range b {
		b[i] = 90
	}
	scans(t, string(b), nil, 0)
	// As many frames of 1000 bytes as a disk has room for, and then some.
	record := of(1000, 9)
	l, n := frame.Scan(bytes.Repeat([]byte(framed(record)), 2000))
	if len(l) != 2000 || n != 2000*1003 || string(l[1999]) != record {
		t.Errorf("%d records, %d", len(l), n)
	}
}
