package balance_test

import (
	"math"
	"math/rand"
	"strings"
	"testing"

	"lessor/balance"
)

// The buckets below that are written as numbers were calculated by the
// document's rule in a program in another language, which shares nothing with
// this one.

// table is the table of P6.1, made by adding, not by multiplying.
func table() [256]int {
	var t [256]int
	n := 13
	for i := range t {
		t[i] = n
		n += 167
		for n >= 256 {
			n -= 256
		}
	}
	return t
}

// wantBucket is Bucket by P6.1: the client is shortened, byte by byte, from its
// end.
func wantBucket(length int, client string) int {
	t := table()
	number := length & 255
	for rest := client; rest != ""; rest = rest[:len(rest)-1] {
		number = t[number^int(rest[len(rest)-1])]
	}
	return number
}

// lengths are those at the edges of a length modulo 256, and ordinary ones.
func lengths() []int {
	return []int{0, 1, 2, 3, 6, 7, 8, 31, 32, 33, 127, 128, 254, 255, 256, 257, 258, 511, 512, 513, 1000, 65535, 65536, 65537}
}

// ints are numbers at the edges of a bucket, of a byte of a mask, and of int.
func ints() []int {
	return []int{
		math.MinInt, math.MinInt + 1, math.MinInt + 8, math.MinInt + 256, -1 << 32, -1<<31 - 1, -1 << 31,
		-65536, -513, -512, -257, -256, -255, -249, -248, -9, -8, -7, -2, -1,
		256, 257, 258, 263, 264, 511, 512, 513, 65535, 65536, 65537,
		1<<31 - 1, 1 << 31, 1<<32 - 1, 1 << 32, 1<<32 + 9, 1 << 62, math.MaxInt - 255, math.MaxInt - 1, math.MaxInt,
	}
}

// anyClient is a random client of any bytes.
func anyClient(r *rand.Rand, length int) string {
	b := make([]byte, length)
	for i := range b {
		switch r.Intn(4) {
		case 0:
			b[i] = byte(255 * r.Intn(2))
		default:
			b[i] = byte(r.Intn(256))
		}
	}
	return string(b)
}

// anyMask is a random mask: of any bits, or of few, or of most.
func anyMask(r *rand.Rand) balance.Mask {
	var m balance.Mask
	for i := range m {
		switch r.Intn(4) {
		case 0:
			m[i] = byte(1 << r.Intn(8))
		case 1:
			m[i] = 255 ^ byte(1<<r.Intn(8))
		case 2:
			m[i] = byte(255 * r.Intn(2))
		default:
			m[i] = byte(r.Intn(256))
		}
	}
	return m
}

// all is the mask with every bucket.
func all() balance.Mask {
	var m balance.Mask
	for i := range m {
		m[i] = 255
	}
	return m
}

// masks are those with no bucket, with all, with a single one, without a single
// one, and random ones.
func masks() []balance.Mask {
	list := []balance.Mask{{}, all()}
	for i := range 32 {
		for bit := range 8 {
			var one balance.Mask
			one[i] = 1 << bit
			others := all()
			others[i] = 255 - 1<<bit
			list = append(list, one, others)
		}
	}
	r := rand.New(rand.NewSource(6))
	for range 200 {
		list = append(list, anyMask(r))
	}
	return list
}

// contains tells by P6.2 whether a mask contains a bucket: the bit counts
// from the least significant one.
func contains(m balance.Mask, bucket int) bool {
	i := 0
	for _, b := range m {
		for range 8 {
			if i == bucket {
				return b%2 == 1
			}
			b /= 2
			i++
		}
	}
	return false
}

// P6.1

func TestBucketOfGivenClients(t *testing.T) {
	for _, c := range []struct {
		client string
		bucket int
	}{
		{"", 0},
		{"\x00", 180},
		{"\x01", 13},
		{"\xff", 191},
		{"a", 173},
		{"b", 162},
		{"\x00\x00", 106},
		{"ab", 33},
		{"ba", 77},
		{"abc", 174},
		{"hello", 150},
		{"\x00\x01", 91},
		{"\x01\x00", 195},
		{"\xff\xff", 190},
		{"client", 143},
		{"00:11:22:33:44:55", 106},
	} {
		if got := balance.Bucket(c.client); got != c.bucket {
			t.Errorf("Bucket(%q) = %d, want %d", c.client, got, c.bucket)
		}
	}
}

// TestBucketOfOneByte has the whole table: the element of the exclusive or of 1
// and the byte.
func TestBucketOfOneByte(t *testing.T) {
	elements := table()
	for b := range 256 {
		if got := balance.Bucket(string([]byte{byte(b)})); got != elements[1^b] {
			t.Errorf("Bucket of the byte %d = %d, want %d", b, got, elements[1^b])
		}
	}
	if elements[0] != 13 || elements[1] != 180 || elements[2] != 91 || elements[255] != 102 {
		t.Error("the test's own table is wrong:", elements)
	}
}

func TestBucketOfEachLength(t *testing.T) {
	for _, n := range lengths() {
		for _, fill := range []string{"\x00", "\xff", "\x01", "\x80", "x"} {
			client := strings.Repeat(fill, n)
			if got, want := balance.Bucket(client), wantBucket(n, client); got != want {
				t.Errorf("Bucket of %d times %q = %d, want %d", n, fill, got, want)
			}
		}
	}
}

// TestBucketOfLongClients: the length counts modulo 256, so 256 bytes begin as
// none does, and 257 as one.
func TestBucketOfLongClients(t *testing.T) {
	for _, c := range []struct {
		fill   string
		length int
		bucket int
	}{
		{"\x00", 255, 190}, {"\x00", 256, 0}, {"\x00", 257, 180},
		{"\xff", 255, 65}, {"\xff", 256, 0}, {"\xff", 257, 191},
	} {
		got := balance.Bucket(strings.Repeat(c.fill, c.length))
		if got != c.bucket {
			t.Errorf("Bucket of %d times %q = %d, want %d", c.length, c.fill, got, c.bucket)
		}
	}
}

func TestBucketOfRandomClients(t *testing.T) {
	r := rand.New(rand.NewSource(61))
	for range 20000 {
		client := anyClient(r, r.Intn(70))
		if got, want := balance.Bucket(client), wantBucket(len(client), client); got != want {
			t.Fatalf("Bucket(%q) = %d, want %d", client, got, want)
		}
	}
	for range 500 {
		client := anyClient(r, r.Intn(2000))
		if got, want := balance.Bucket(client), wantBucket(len(client), client); got != want {
			t.Fatalf("Bucket(%q) = %d, want %d", client, got, want)
		}
	}
}

// TestBucketOfBytesNotRunes: bytes that are no UTF-8, and runes of several bytes,
// count as bytes.
func TestBucketOfBytesNotRunes(t *testing.T) {
	for _, client := range []string{"é", "日本", "\xc3", "\xff\xfe\xfd", "a\xf0b", "\u0000é\xff", "\xed\xa0\x80"} {
		if got, want := balance.Bucket(client), wantBucket(len(client), client); got != want {
			t.Errorf("Bucket(%q) = %d, want %d", client, got, want)
		}
	}
	if balance.Bucket("\xff") == balance.Bucket("\uFFFD") {
		t.Error("a byte that is no UTF-8 counts as the rune that stands for it")
	}
}

// TestBucketGoesFromTheLastByte has the steps of a client of two bytes one by one.
func TestBucketGoesFromTheLastByte(t *testing.T) {
	elements := table()
	number := elements[2^'b']
	number = elements[number^'a']
	if got := balance.Bucket("ab"); got != number {
		t.Errorf("Bucket(ab) = %d, want %d", got, number)
	}
	if balance.Bucket("ab") == balance.Bucket("ba") {
		t.Error("the order of the bytes does not count")
	}
}

// P6.2

func TestFirstAsBytes(t *testing.T) {
	for _, c := range []struct {
		n     int
		bytes map[int]byte
	}{
		{-1, nil},
		{0, nil},
		{1, map[int]byte{0: 1}},
		{3, map[int]byte{0: 7}},
		{7, map[int]byte{0: 127}},
		{8, map[int]byte{0: 255}},
		{9, map[int]byte{0: 255, 1: 1}},
		{20, map[int]byte{0: 255, 1: 255, 2: 15}},
	} {
		var want balance.Mask
		for i, b := range c.bytes {
			want[i] = b
		}
		if got := balance.First(c.n); got != want {
			t.Errorf("First(%d) = %v, want %v", c.n, got, want)
		}
	}
	want := all()
	for _, n := range []int{256, 257, 264, 1000, math.MaxInt - 1, math.MaxInt} {
		if got := balance.First(n); got != want {
			t.Errorf("First(%d) = %v, want all", n, got)
		}
	}
	want[31] = 127
	if got := balance.First(255); got != want {
		t.Errorf("First(255) = %v, want all but the last one", got)
	}
}

// TestFirst has every number from -300 to 600, and those at the edges of int.
func TestFirst(t *testing.T) {
	numbers := ints()
	for n := -300; n <= 600; n++ {
		numbers = append(numbers, n)
	}
	for _, n := range numbers {
		m := balance.First(n)
		for bucket := range 256 {
			if contains(m, bucket) != (bucket < n) {
				t.Errorf("First(%d) is wrong about bucket %d: %v", n, bucket, m)
			}
			if m.Has(bucket) != (bucket < n) {
				t.Errorf("First(%d).Has(%d) = %v", n, bucket, m.Has(bucket))
			}
		}
		if got, want := m.Count(), min(max(n, 0), 256); got != want {
			t.Errorf("First(%d).Count() = %d, want %d", n, got, want)
		}
	}
}

func TestHas(t *testing.T) {
	for _, m := range masks() {
		for bucket := range 256 {
			if got, want := m.Has(bucket), contains(m, bucket); got != want {
				t.Fatalf("%v.Has(%d) = %v, want %v", m, bucket, got, want)
			}
		}
	}
}

// TestHasOfNoBucket: not even a mask with all buckets has what is no bucket.
func TestHasOfNoBucket(t *testing.T) {
	for _, m := range masks() {
		for _, n := range ints() {
			if m.Has(n) {
				t.Fatalf("%v.Has(%d) = true", m, n)
			}
		}
	}
	if m := all(); !m.Has(0) || !m.Has(255) || m.Has(-1) || m.Has(256) || m.Has(math.MinInt) || m.Has(math.MaxInt) {
		t.Error("the mask with all buckets is wrong at its edges")
	}
}

func TestHasOfSingleBits(t *testing.T) {
	var m balance.Mask
	m[0], m[1], m[31] = 0x81, 0x02, 0x80
	for bucket := range 256 {
		want := bucket == 0 || bucket == 7 || bucket == 9 || bucket == 255
		if m.Has(bucket) != want {
			t.Errorf("Has(%d) = %v", bucket, m.Has(bucket))
		}
	}
	if m.Count() != 4 {
		t.Errorf("Count() = %d, want 4", m.Count())
	}
}

func TestNot(t *testing.T) {
	for _, m := range masks() {
		not := m.Not()
		for i := range m {
			if not[i] != 255-m[i] {
				t.Fatalf("%v.Not() = %v", m, not)
			}
		}
		if not.Not() != m {
			t.Fatalf("%v.Not().Not() = %v", m, not.Not())
		}
	}
}

func TestCount(t *testing.T) {
	for _, m := range masks() {
		want := 0
		for bucket := range 256 {
			if contains(m, bucket) {
				want++
			}
		}
		if got := m.Count(); got != want {
			t.Fatalf("%v.Count() = %d, want %d", m, got, want)
		}
		if got := m.Not().Count(); got != 256-want {
			t.Fatalf("%v.Not().Count() = %d, want %d", m, got, 256-want)
		}
	}
}

func TestEmptyAndFullMask(t *testing.T) {
	var none balance.Mask
	if none.Count() != 0 || all().Count() != 256 {
		t.Errorf("Counts %d and %d, want 0 and 256", none.Count(), all().Count())
	}
	if none.Not() != all() || all().Not() != none {
		t.Errorf("Nots %v and %v", none.Not(), all().Not())
	}
	if balance.First(0) != none || balance.First(256) != all() || balance.First(0).Not() != balance.First(256) {
		t.Error("First(0) or First(256) is not the mask with none or with all")
	}
}

// P6.3

// TestEachClientInOneOfMaskAndNot: also clients whose length is at an edge.
func TestEachClientInOneOfMaskAndNot(t *testing.T) {
	r := rand.New(rand.NewSource(63))
	list := masks()
	clients := []string{""}
	for _, n := range lengths() {
		clients = append(clients, anyClient(r, n), strings.Repeat("\x00", n), strings.Repeat("\xff", n))
	}
	for _, client := range clients {
		bucket := balance.Bucket(client)
		if bucket < 0 || bucket > 255 {
			t.Fatalf("Bucket(%q) = %d", client, bucket)
		}
		for _, m := range list {
			if m.Has(bucket) == m.Not().Has(bucket) {
				t.Fatalf("bucket %d is in both or none of %v and its Not", bucket, m)
			}
		}
	}
}

// TestElementsAreDistinct: the buckets of all clients of one byte are the
// elements of the table.
func TestElementsAreDistinct(t *testing.T) {
	seen := map[int]bool{}
	for b := range 256 {
		seen[balance.Bucket(string([]byte{byte(b)}))] = true
	}
	if len(seen) != 256 {
		t.Errorf("%d elements, want 256", len(seen))
	}
}

// TestClientsThatDifferInOneByte: whichever byte that is, its 256 values bring a
// client into the 256 buckets.
func TestClientsThatDifferInOneByte(t *testing.T) {
	r := rand.New(rand.NewSource(64))
	for _, n := range lengths() {
		if n == 0 || n > 1000 {
			continue
		}
		client := []byte(anyClient(r, n))
		for _, at := range []int{0, n / 2, n - 1, r.Intn(n)} {
			seen := map[int]bool{}
			old := client[at]
			for b := range 256 {
				client[at] = byte(b)
				seen[balance.Bucket(string(client))] = true
			}
			client[at] = old
			if len(seen) != 256 {
				t.Errorf("%d bytes, byte %d: %d buckets, want 256", n, at, len(seen))
			}
		}
	}
}

func TestClientsThatDifferInOneByteByName(t *testing.T) {
	for _, c := range [][2]string{
		{"xbcde", "ybcde"}, {"abxde", "abyde"}, {"abcdx", "abcdy"},
		{"\x00", "\xff"}, {"\x00bc", "\xffbc"}, {"a\x00c", "a\xffc"}, {"ab\x00", "ab\xff"},
		{"\x00\x00\x00", "\x00\x00\x01"}, {"\x80\x00\x00", "\x00\x00\x00"},
	} {
		if balance.Bucket(c[0]) == balance.Bucket(c[1]) {
			t.Errorf("%q and %q are both in bucket %d", c[0], c[1], balance.Bucket(c[0]))
		}
	}
}

// TestBucketsAreEven: of many clients, each bucket has its part, more or less.
func TestBucketsAreEven(t *testing.T) {
	var counts [256]int
	for a := range 256 {
		for b := range 256 {
			counts[balance.Bucket(string([]byte{byte(a), byte(b)}))]++
		}
	}
	for bucket, n := range counts {
		if n != 256 {
			t.Errorf("bucket %d has %d of the clients of two bytes, want 256", bucket, n)
		}
	}
}

// R3, R4: masks are values, and nothing is kept.

func TestMasksAreValues(t *testing.T) {
	for _, m := range masks() {
		before := m
		not := m.Not()
		m.Has(3)
		m.Count()
		not[0] ^= 255
		if m != before {
			t.Fatalf("%v became %v", before, m)
		}
	}
	first := balance.First(9)
	first[1] = 0
	if balance.First(9)[1] != 1 {
		t.Error("a change of a result changes the next result")
	}
}

func TestNothingIsKept(t *testing.T) {
	r := rand.New(rand.NewSource(66))
	type asked struct {
		client string
		bucket int
	}
	var list []asked
	for range 300 {
		client := anyClient(r, r.Intn(40))
		list = append(list, asked{client, balance.Bucket(client)})
	}
	r.Shuffle(len(list), func(i, j int) { list[i], list[j] = list[j], list[i] })
	for _, a := range list {
		balance.First(r.Intn(300)).Not().Count()
		if got := balance.Bucket(a.client); got != a.bucket {
			t.Fatalf("Bucket(%q) = %d, and then %d", a.client, a.bucket, got)
		}
	}
}

// P1

func FuzzBalance(f *testing.F) {
	f.Add("", 0, 0)
	f.Add("a", 256, 255)
	f.Add("\xff\x00", -1, -1)
	f.Add(strings.Repeat("x", 257), math.MinInt, math.MaxInt)
	f.Fuzz(func(t *testing.T, client string, n, bucket int) {
		b := balance.Bucket(client)
		if b != wantBucket(len(client), client) {
			t.Fatalf("Bucket(%q) = %d", client, b)
		}
		m := balance.First(n)
		is := bucket >= 0 && bucket <= 255
		if m.Has(bucket) != (is && bucket < n) || m.Not().Has(bucket) != (is && bucket >= n) {
			t.Fatalf("First(%d) or its Not is wrong about %d", n, bucket)
		}
		if m.Has(b) == m.Not().Has(b) || m.Count()+m.Not().Count() != 256 {
			t.Fatalf("First(%d) and its Not are no two parts of all", n)
		}
	})
}
