package option_test

import (
	"bytes"
	"math"
	"math/rand"
	"slices"
	"testing"

	"lessor/api"
	"lessor/option"
)

// opt makes an option of a Code and the bytes of its Data.
func opt(code int, data ...byte) api.Option {
	return api.Option{Code: code, Data: data}
}

// list makes a list of options.
func list(l ...api.Option) []api.Option {
	return l
}

// filled is an option whose Data is so many bytes of one value.
func filled(code, size int, value byte) api.Option {
	return opt(code, bytes.Repeat([]byte{value}, size)...)
}

// zeros is so many bytes 0.
func zeros(n int) []byte {
	return make([]byte, n)
}

// same reports whether two lists have the same options, an empty Data being like none.
func same(a, b []api.Option) bool {
	return slices.EqualFunc(a, b, func(x, y api.Option) bool {
		return x.Code == y.Code && bytes.Equal(x.Data, y.Data)
	})
}

// cloned is a copy of l that shares no memory with it.
func cloned(l []api.Option) []api.Option {
	out := slices.Clone(l)
	for i := range out {
		out[i].Data = bytes.Clone(out[i].Data)
	}
	return out
}

// spoil overwrites all that can be reached of l, up to the capacities.
func spoil(l []api.Option) {
	for i := range l {
		spoilBytes(l[i].Data)
	}
	l = l[:cap(l)]
	for i := range l {
		l[i] = opt(-7, 7)
	}
}

func spoilBytes(b []byte) {
	b = b[:cap(b)]
	for i := range b {
		b[i] ^= 0xa5
	}
}

// exactly is options whose encoding has so many bytes (some 10 at least).
func exactly(size int) []api.Option {
	var l []api.Option
	left := size - 1
	for left > 257+2 {
		l = append(l, filled(1+len(l)%100, 255, 0))
		left -= 257
	}
	first := left / 2
	return append(l, filled(200, first-2, 255), filled(201, left-first-2, 7))
}

// P2.1

func TestEncodeOfKnownOptions(t *testing.T) {
	for _, c := range []struct {
		l    []api.Option
		want []byte
	}{
		{nil, []byte{255}},
		{[]api.Option{}, []byte{255}},
		{list(opt(53, 1)), []byte{53, 1, 1, 255}},
		{list(opt(53)), []byte{53, 0, 255}},
		{list(api.Option{Code: 53, Data: []byte{}}), []byte{53, 0, 255}},
		{list(opt(1), opt(254)), []byte{1, 0, 254, 0, 255}},
		{list(opt(1, 0), opt(254, 255)), []byte{1, 1, 0, 254, 1, 255, 255}},
		{list(opt(61, 'a', 'b'), opt(53, 1)), []byte{61, 2, 'a', 'b', 53, 1, 1, 255}},
		{list(opt(53, 1), opt(61, 'a', 'b')), []byte{53, 1, 1, 61, 2, 'a', 'b', 255}},
		{list(opt(9, 1), opt(9, 2), opt(9, 1)), []byte{9, 1, 1, 9, 1, 2, 9, 1, 1, 255}},
		{list(opt(128, 0, 0, 255, 255)), []byte{128, 4, 0, 0, 255, 255, 255}},
	} {
		if b, e := option.Encode(c.l); !bytes.Equal(b, c.want) || e != api.OK {
			t.Errorf("Encode(%v) = %v, %d, want %v, OK", c.l, b, e, c.want)
		}
	}
}

func TestEncodeOfEveryCode(t *testing.T) {
	for code := -300; code <= 600; code++ {
		b, e := option.Encode(list(opt(code, 5)))
		if code < 1 || code > 254 {
			if len(b) != 0 || e != api.ErrArg {
				t.Errorf("Encode of Code %d = %v, %d, want nothing, ErrArg", code, b, e)
			}
		} else if !bytes.Equal(b, []byte{byte(code), 1, 5, 255}) || e != api.OK {
			t.Errorf("Encode of Code %d = %v, %d", code, b, e)
		}
	}
	for _, code := range []int{math.MinInt, math.MinInt + 53, -1 << 32, 1<<32 + 53, 1<<63 - 256 + 53, math.MaxInt} {
		if b, e := option.Encode(list(opt(code))); len(b) != 0 || e != api.ErrArg {
			t.Errorf("Encode of Code %d = %v, %d, want nothing, ErrArg", code, b, e)
		}
	}
}

func TestEncodeOfEveryLengthOfData(t *testing.T) {
	for size := range 256 {
		b, e := option.Encode(list(filled(12, size, 9)))
		want := slices.Concat([]byte{12, byte(size)}, bytes.Repeat([]byte{9}, size), []byte{255})
		if !bytes.Equal(b, want) || e != api.OK {
			t.Errorf("Encode of %d bytes of Data = %v, %d", size, b, e)
		}
	}
	for _, size := range []int{256, 257, 511, 512, 513, 1021, 1022, 1024, 65536} {
		if b, e := option.Encode(list(filled(12, size, 9))); len(b) != 0 || e != api.ErrArg {
			t.Errorf("Encode of %d bytes of Data = %v, %d, want nothing, ErrArg", size, b, e)
		}
	}
}

func TestEncodeRefusesAWrongOptionAmongOthers(t *testing.T) {
	for _, wrong := range []api.Option{opt(0), opt(-1), opt(255), opt(256), opt(256+53, 1), filled(53, 256, 1), filled(0, 256, 0)} {
		for i := range 4 {
			l := slices.Insert(list(opt(1), opt(2, 2), opt(254, 3, 4)), i, wrong)
			if b, e := option.Encode(l); len(b) != 0 || e != api.ErrArg {
				t.Errorf("Encode(%v) = %v, %d, want nothing, ErrArg", l, b, e)
			}
		}
	}
}

func TestEncodeOf1024BytesAndOneMore(t *testing.T) {
	for _, size := range []int{1020, 1021, 1022, 1023, 1024} {
		if b, e := option.Encode(exactly(size)); len(b) != size || e != api.OK {
			t.Errorf("Encode of %d bytes = %d bytes, %d", size, len(b), e)
		}
	}
	for _, size := range []int{1025, 1026, 1027, 1279, 1280, 1281, 2048, 65535, 65536, 65537, 66560} {
		if b, e := option.Encode(exactly(size)); len(b) != 0 || e != api.ErrFull {
			t.Errorf("Encode of %d bytes = %v, %d, want nothing, ErrFull", size, b, e)
		}
	}
	many := slices.Repeat(list(opt(77)), 511)
	if b, e := option.Encode(many); len(b) != 1023 || e != api.OK {
		t.Errorf("Encode of 511 empty options = %d bytes, %d", len(b), e)
	}
	if b, e := option.Encode(append(many, opt(77))); len(b) != 0 || e != api.ErrFull {
		t.Errorf("Encode of 512 empty options = %v, %d, want nothing, ErrFull", b, e)
	}
	if b, e := option.Encode(append(many[:510:510], opt(77, 1))); len(b) != 1024 || e != api.OK {
		t.Errorf("Encode of 511 options, one with a byte = %d bytes, %d", len(b), e)
	}
	if b, e := option.Encode(append(many[:510:510], opt(77, 1, 2))); len(b) != 0 || e != api.ErrFull {
		t.Errorf("Encode of 511 options, one with two bytes = %v, %d, want nothing, ErrFull", b, e)
	}
}

func TestEncodeNamesErrArgAheadOfErrFull(t *testing.T) {
	full := exactly(1500)
	for _, wrong := range []api.Option{opt(0), opt(255), opt(-1), filled(53, 256, 1), filled(53, 4000, 1)} {
		for i := range len(full) + 1 {
			l := slices.Insert(slices.Clone(full), i, wrong)
			if b, e := option.Encode(l); len(b) != 0 || e != api.ErrArg {
				t.Errorf("Encode of too much with %d of %d bytes at %d = %v, %d, want nothing, ErrArg", wrong.Code, len(wrong.Data), i, b, e)
			}
		}
	}
	// Either of both reasons alone would be enough.
	if b, e := option.Encode(list(filled(53, 1025, 1))); len(b) != 0 || e != api.ErrArg {
		t.Errorf("Encode of 1025 bytes of Data = %v, %d, want nothing, ErrArg", b, e)
	}
	if b, e := option.Encode(append(slices.Repeat(list(opt(1)), 5000), opt(300))); len(b) != 0 || e != api.ErrArg {
		t.Errorf("Encode of 5000 options and a wrong one = %v, %d, want nothing, ErrArg", b, e)
	}
}

func TestEncodeLeavesItsArgumentAlone(t *testing.T) {
	l := list(opt(53, 1), opt(61, 'a', 'b'), opt(7))
	before := cloned(l)
	b, _ := option.Encode(l)
	spoilBytes(b)
	if !same(l, before) {
		t.Errorf("Encode shares memory with its argument: %v became %v", before, l)
	}
}

// P2.2

func TestDecodeOfKnownBytes(t *testing.T) {
	for _, c := range []struct {
		b    []byte
		want []api.Option
	}{
		{[]byte{255}, nil},
		{[]byte{255, 0}, nil},
		{[]byte{0, 255}, nil},
		{[]byte{0, 0, 0, 255, 0, 0, 0, 0}, nil},
		{[]byte{53, 1, 1, 255}, list(opt(53, 1))},
		{[]byte{53, 0, 255}, list(opt(53))},
		{[]byte{1, 0, 254, 0, 255}, list(opt(1), opt(254))},
		{[]byte{254, 1, 255, 1, 1, 0, 255}, list(opt(254, 255), opt(1, 0))},
		{[]byte{0, 53, 1, 1, 0, 0, 61, 2, 'a', 'b', 0, 255, 0}, list(opt(53, 1), opt(61, 'a', 'b'))},
		{[]byte{53, 1, 1, 61, 2, 'a', 'b', 255}, list(opt(53, 1), opt(61, 'a', 'b'))},
		{[]byte{9, 1, 1, 9, 1, 2, 9, 1, 1, 255}, list(opt(9, 1), opt(9, 2), opt(9, 1))},
		// Bytes of Data are neither padding nor an end.
		{[]byte{7, 3, 0, 0, 0, 255}, list(opt(7, 0, 0, 0))},
		{[]byte{7, 3, 255, 0, 255, 255}, list(opt(7, 255, 0, 255))},
		{[]byte{7, 1, 255, 255, 0}, list(opt(7, 255))},
		{[]byte{7, 2, 0, 255, 0, 8, 1, 0, 0, 255, 0, 0}, list(opt(7, 0, 255), opt(8, 0))},
		{slices.Concat([]byte{7, 255}, bytes.Repeat([]byte{255}, 255), []byte{255}), list(filled(7, 255, 255))},
		{slices.Concat([]byte{7, 255}, zeros(255), []byte{255}), list(filled(7, 255, 0))},
	} {
		if l, e := option.Decode(c.b); !same(l, c.want) || e != api.OK {
			t.Errorf("Decode(%v) = %v, %d, want %v, OK", c.b, l, e, c.want)
		}
	}
}

func TestDecodeRefusesBytesOfAnotherForm(t *testing.T) {
	for _, b := range [][]byte{
		// No end.
		nil, {}, {0}, {0, 0, 0}, {53, 0}, {53, 1, 1}, {53, 1, 255}, {53, 1, 1, 0}, {0, 53, 1, 1, 0, 0},
		// Truncated at the Code, at the length, in the Data.
		{53}, {1}, {254}, {0, 53}, {61, 1, 9, 53},
		{53, 1}, {53, 2}, {53, 255}, {61, 1, 9, 53, 1},
		{53, 2, 1}, {53, 2, 255}, {53, 3, 1, 255}, {53, 2, 0}, {53, 255, 255}, {61, 1, 9, 53, 3, 1, 2}, {53, 4, 1, 1, 255},
		// An end that is the last byte of Data, or the length.
		{53, 2, 1, 255}, {61, 1, 9, 53, 2, 1, 255}, {53, 255, 1, 255},
		// A byte behind the end that is not 0.
		{255, 1}, {255, 255}, {255, 0, 1}, {255, 0, 255}, {255, 53, 1, 1}, {255, 53, 1, 1, 255}, {53, 1, 1, 255, 254},
		{53, 1, 1, 255, 0, 0, 0, 7}, {53, 1, 1, 255, 0, 7, 0}, {0, 255, 128, 0, 0},
	} {
		if l, e := option.Decode(b); len(l) != 0 || e != api.ErrForm {
			t.Errorf("Decode(%v) = %v, %d, want nothing, ErrForm", b, l, e)
		}
	}
}

func TestDecodeRefusesEveryTruncation(t *testing.T) {
	b, e := option.Encode(list(opt(53, 1), opt(7), filled(61, 255, 255), opt(254, 255, 255), filled(1, 30, 0)))
	if e != api.OK {
		t.Fatal(e)
	}
	for n := range len(b) {
		if l, e := option.Decode(b[:n]); len(l) != 0 || e != api.ErrForm {
			t.Errorf("Decode of the first %d bytes of %d = %v, %d, want nothing, ErrForm", n, len(b), l, e)
		}
	}
}

func TestDecodeRefusesEveryOtherByteBehindTheEnd(t *testing.T) {
	for value := range 256 {
		for _, place := range []int{0, 1, 9} {
			tail := zeros(10)
			tail[place] = byte(value)
			l, e := option.Decode(append([]byte{53, 1, 1, 255}, tail...))
			if value == 0 && (e != api.OK || !same(l, list(opt(53, 1)))) {
				t.Errorf("Decode with bytes 0 behind the end = %v, %d", l, e)
			}
			if value != 0 && (e != api.ErrForm || len(l) != 0) {
				t.Errorf("Decode with %d behind the end = %v, %d, want nothing, ErrForm", value, l, e)
			}
		}
	}
}

func TestDecodeOf1024BytesAndOneMore(t *testing.T) {
	full, e := option.Encode(exactly(1024))
	if e != api.OK {
		t.Fatal(e)
	}
	small := []byte{53, 1, 1, 255}
	for _, c := range []struct {
		b    []byte
		want []api.Option
	}{
		{full, exactly(1024)},
		{append(zeros(1023), 255), nil},
		{append([]byte{255}, zeros(1023)...), nil},
		{slices.Concat(small, zeros(1020)), list(opt(53, 1))},
		{slices.Concat(zeros(1020), small), list(opt(53, 1))},
		{slices.Concat(zeros(500), small, zeros(520)), list(opt(53, 1))},
	} {
		if len(c.b) != 1024 {
			t.Fatalf("%d bytes", len(c.b))
		}
		if l, e := option.Decode(c.b); !same(l, c.want) || e != api.OK {
			t.Errorf("Decode of 1024 bytes = %v, %d, want %v, OK", l, e, c.want)
		}
		for _, more := range [][]byte{append(slices.Clone(c.b), 0), append([]byte{0}, c.b...), append(slices.Clone(c.b), zeros(5000)...)} {
			if l, e := option.Decode(more); len(l) != 0 || e != api.ErrForm {
				t.Errorf("Decode of %d bytes = %v, %d, want nothing, ErrForm", len(more), l, e)
			}
		}
	}
}

func TestDecodeSharesNoMemory(t *testing.T) {
	b := []byte{53, 1, 1, 61, 2, 'a', 'b', 7, 0, 8, 1, 9, 255, 0}
	before := slices.Clone(b)
	want := list(opt(53, 1), opt(61, 'a', 'b'), opt(7), opt(8, 9))
	l, _ := option.Decode(b)
	spoilBytes(b)
	if !same(l, want) {
		t.Errorf("what Decode returned changed with its argument: %v", l)
	}
	copy(b, before)
	for i := range l {
		l, _ := option.Decode(b)
		spoilBytes(l[i].Data)
		if !bytes.Equal(b, before) {
			t.Errorf("the argument of Decode changed with what it returned: %v", b)
		}
		for j := range l {
			if j != i && !bytes.Equal(l[j].Data, want[j].Data) {
				t.Errorf("option %d of what Decode returned shares memory with option %d", i, j)
			}
		}
	}
}

// P2.3

func TestFindOfTheFirstWithItsCode(t *testing.T) {
	l := list(opt(53, 1), opt(61, 'a'), opt(53, 2), opt(7), opt(7, 1), opt(0, 4), opt(-5, 5), opt(300, 6))
	for _, c := range []struct {
		l    []api.Option
		code int
		want []byte
		is   bool
	}{
		{l, 53, []byte{1}, true},
		{l, 61, []byte{'a'}, true},
		{l, 7, nil, true},
		{l, 0, []byte{4}, true},
		{l, -5, []byte{5}, true},
		{l, 300, []byte{6}, true},
		{l, 1, nil, false},
		{l, 52, nil, false},
		{l, 54, nil, false},
		{l, 53 + 256, nil, false},
		{l, 44, nil, false}, // 300 in one byte
		{l, 251, nil, false},
		{l, 255, nil, false},
		{l, math.MinInt, nil, false},
		{l, math.MaxInt, nil, false},
		{nil, 53, nil, false},
		{nil, 0, nil, false},
		{[]api.Option{}, 53, nil, false},
		{list(opt(254, 1, 2, 3)), 254, []byte{1, 2, 3}, true},
		{list(opt(1), opt(254, 9), opt(254)), 254, []byte{9}, true},
		{list(filled(1, 256, 3)), 1, bytes.Repeat([]byte{3}, 256), true},
	} {
		if b, is := option.Find(c.l, c.code); !bytes.Equal(b, c.want) || is != c.is {
			t.Errorf("Find(%v, %d) = %v, %v, want %v, %v", c.l, c.code, b, is, c.want, c.is)
		}
	}
}

func TestFindSharesNoMemory(t *testing.T) {
	l := list(opt(53, 1, 2), opt(61, 3))
	before := cloned(l)
	b, _ := option.Find(l, 53)
	spoilBytes(b)
	if !same(l, before) {
		t.Errorf("the argument of Find changed with what it returned: %v", l)
	}
	b, _ = option.Find(l, 53)
	spoil(l)
	if !bytes.Equal(b, []byte{1, 2}) {
		t.Errorf("what Find returned changed with its argument: %v", b)
	}
}

func TestPutOfKnownLists(t *testing.T) {
	l := list(opt(53, 1), opt(61, 'a'), opt(53, 2), opt(7), opt(53), opt(61, 'b'))
	for _, c := range []struct {
		l    []api.Option
		code int
		data []byte
		want []api.Option
	}{
		{nil, 53, []byte{1}, list(opt(53, 1))},
		{[]api.Option{}, 53, nil, list(opt(53))},
		{list(opt(53, 1)), 53, []byte{2, 3}, list(opt(53, 2, 3))},
		{list(opt(53, 1)), 53, nil, list(opt(53))},
		{list(opt(53)), 53, []byte{}, list(opt(53))},
		{list(opt(53, 1)), 54, []byte{2}, list(opt(53, 1), opt(54, 2))},
		{list(opt(53, 1)), 52, []byte{2}, list(opt(53, 1), opt(52, 2))},
		{list(opt(53, 1), opt(53, 2)), 53, []byte{3}, list(opt(53, 3))},
		{list(opt(53, 1), opt(53, 1), opt(53, 1)), 53, []byte{1}, list(opt(53, 1))},
		{l, 53, []byte{9}, list(opt(53, 9), opt(61, 'a'), opt(7), opt(61, 'b'))},
		{l, 61, []byte{9}, list(opt(53, 1), opt(61, 9), opt(53, 2), opt(7), opt(53))},
		{l, 7, []byte{9}, list(opt(53, 1), opt(61, 'a'), opt(53, 2), opt(7, 9), opt(53), opt(61, 'b'))},
		{l, 8, []byte{9}, append(cloned(l), opt(8, 9))},
		// Put has no errors: any Code and any Data will do.
		{l, 53 + 256, []byte{9}, append(cloned(l), opt(53+256, 9))},
		{l, 0, nil, append(cloned(l), opt(0))},
		{l, 255, nil, append(cloned(l), opt(255))},
		{l, math.MinInt, nil, append(cloned(l), opt(math.MinInt))},
		{l, math.MaxInt, nil, append(cloned(l), opt(math.MaxInt))},
		{list(opt(0, 1), opt(-1), opt(0, 2), opt(-1)), 0, []byte{3}, list(opt(0, 3), opt(-1), opt(-1))},
		{list(filled(1, 300, 1)), 2, zeros(256), list(filled(1, 300, 1), filled(2, 256, 0))},
	} {
		if got := option.Put(c.l, c.code, c.data); !same(got, c.want) {
			t.Errorf("Put(%v, %d, %v) = %v, want %v", c.l, c.code, c.data, got, c.want)
		}
	}
}

func TestPutSharesNoMemory(t *testing.T) {
	for _, c := range []struct {
		code int
		want []api.Option
	}{
		{53, list(opt(53, 7, 8), opt(61, 3), opt(61, 4))},
		{61, list(opt(53, 1, 2), opt(61, 7, 8), opt(53, 5))},
		{9, list(opt(53, 1, 2), opt(61, 3), opt(53, 5), opt(61, 4), opt(9, 7, 8))},
	} {
		l := list(opt(53, 1, 2), opt(61, 3), opt(53, 5), opt(61, 4))
		l = append(make([]api.Option, 0, 10), l...)
		data := append(make([]byte, 0, 10), 7, 8)
		before := cloned(l)
		got := option.Put(l, c.code, data)
		if !same(l, before) || !same(l[:10][4:], make([]api.Option, 6)) {
			t.Errorf("Put(%v, %d) changed its argument to %v", before, c.code, l[:10])
		}
		again := option.Put(l, c.code, data)
		spoil(again)
		if !same(l, before) || !bytes.Equal(data, []byte{7, 8}) {
			t.Errorf("the arguments of Put(.., %d) changed with what it returned: %v, %v", c.code, l, data)
		}
		spoil(l)
		spoilBytes(data)
		if !same(got, c.want) {
			t.Errorf("what Put(.., %d) returned changed with its arguments: %v, want %v", c.code, got, c.want)
		}
	}
}

func TestPutSeparatesDataThatItsArgumentsShare(t *testing.T) {
	data := []byte{1, 2, 3}
	l := list(api.Option{Code: 5, Data: data}, api.Option{Code: 6, Data: data[1:]}, api.Option{Code: 7, Data: data})
	got := option.Put(l, 6, data)
	spoilBytes(got[1].Data)
	if !bytes.Equal(got[0].Data, data) || !bytes.Equal(got[2].Data, data) || !bytes.Equal(data, []byte{1, 2, 3}) {
		t.Errorf("options that Put returned share memory: %v, %v", got, data)
	}
}

// P2.4

func TestNumberAndBytesOfKnownNumbers(t *testing.T) {
	for _, c := range []struct {
		n int
		b []byte
	}{
		{0, []byte{0}},
		{1, []byte{1}},
		{127, []byte{127}},
		{128, []byte{128}},
		{255, []byte{255}},
		{0, []byte{0, 0}},
		{1, []byte{0, 1}},
		{255, []byte{0, 255}},
		{256, []byte{1, 0}},
		{258, []byte{1, 2}},
		{1 << 15, []byte{128, 0}},
		{65535, []byte{255, 255}},
		{0, []byte{0, 0, 0, 0}},
		{1, []byte{0, 0, 0, 1}},
		{258, []byte{0, 0, 1, 2}},
		{65536, []byte{0, 1, 0, 0}},
		{0x01020304, []byte{1, 2, 3, 4}},
		{1<<31 - 1, []byte{127, 255, 255, 255}},
		{1 << 31, []byte{128, 0, 0, 0}},
		{1<<32 - 1, []byte{255, 255, 255, 255}},
	} {
		if n, e := option.Number(c.b); n != c.n || e != api.OK {
			t.Errorf("Number(%v) = %d, %d, want %d, OK", c.b, n, e, c.n)
		}
		if b, e := option.Bytes(c.n, len(c.b)); !bytes.Equal(b, c.b) || e != api.OK {
			t.Errorf("Bytes(%d, %d) = %v, %d, want %v, OK", c.n, len(c.b), b, e, c.b)
		}
	}
}

func TestNumberRefusesOtherLengths(t *testing.T) {
	for _, size := range []int{0, 3, 5, 6, 7, 8, 9, 16, 255, 256, 257, 258, 260, 65536} {
		for _, value := range []byte{0, 1, 255} {
			if n, e := option.Number(bytes.Repeat([]byte{value}, size)); n != 0 || e != api.ErrForm {
				t.Errorf("Number of %d bytes %d = %d, %d, want 0, ErrForm", size, value, n, e)
			}
		}
	}
	if n, e := option.Number(nil); n != 0 || e != api.ErrForm {
		t.Errorf("Number(nil) = %d, %d, want 0, ErrForm", n, e)
	}
}

func TestBytesRefusesWhatDoesNotFit(t *testing.T) {
	for _, c := range []struct{ n, many int }{
		{256, 1}, {257, 1}, {65535, 1}, {65536, 1}, {1 << 32, 1}, {math.MaxInt, 1},
		{65536, 2}, {65537, 2}, {1 << 24, 2}, {1 << 32, 2}, {math.MaxInt, 2},
		{1 << 32, 4}, {1<<32 + 1, 4}, {1 << 40, 4}, {math.MaxInt, 4},
		{-1, 1}, {-1, 2}, {-1, 4}, {-255, 1}, {-256, 1}, {-65536, 2}, {-1 << 32, 4}, {-1 << 31, 4},
		{math.MinInt, 1}, {math.MinInt, 2}, {math.MinInt, 4}, {math.MinInt + 1, 4},
	} {
		if b, e := option.Bytes(c.n, c.many); len(b) != 0 || e != api.ErrArg {
			t.Errorf("Bytes(%d, %d) = %v, %d, want nothing, ErrArg", c.n, c.many, b, e)
		}
	}
}

func TestBytesRefusesOtherLengths(t *testing.T) {
	for _, many := range []int{math.MinInt, -1 << 32, -4, -2, -1, 0, 3, 5, 6, 7, 8, 9, 16, 256, 257, 1<<32 + 1, 1<<32 + 4, 1 << 61, 1<<61 + 1, math.MaxInt} {
		for _, n := range []int{0, 1, 255, -1, 1 << 32, math.MinInt, math.MaxInt} {
			if b, e := option.Bytes(n, many); len(b) != 0 || e != api.ErrArg {
				t.Errorf("Bytes(%d, %d) = %v, %d, want nothing, ErrArg", n, many, b, e)
			}
		}
	}
}

func TestNumberAndBytesAreInverse(t *testing.T) {
	r := rand.New(rand.NewSource(1))
	check := func(n, many int) {
		b, e := option.Bytes(n, many)
		if m, f := option.Number(b); len(b) != many || e != api.OK || m != n || f != api.OK {
			t.Fatalf("Bytes(%d, %d) = %v, %d; Number of it = %d, %d", n, many, b, e, m, f)
		}
	}
	for n := range 65536 {
		if n < 256 {
			check(n, 1)
		}
		check(n, 2)
		check(n, 4)
		check(n<<16|n, 4)
		check(int(r.Uint32()), 4)
	}
}

func TestNumberLeavesItsArgumentAlone(t *testing.T) {
	b := []byte{1, 2, 3, 4}
	option.Number(b)
	if !bytes.Equal(b, []byte{1, 2, 3, 4}) {
		t.Errorf("Number changed its argument to %v", b)
	}
}

// P2.5

// anyOptions is options that Encode accepts, many of them with the same few Codes and bytes.
func anyOptions(r *rand.Rand) []api.Option {
	var l []api.Option
	left := r.Intn(1024)
	for left >= 2 {
		size := r.Intn(6)
		if r.Intn(8) == 0 {
			size = r.Intn(256)
		}
		size = min(size, left-2)
		o := filled([]int{1, 53, 61, 254, 1 + r.Intn(254)}[r.Intn(5)], size, 0)
		for i := range o.Data {
			o.Data[i] = []byte{0, 1, 255, byte(r.Intn(256))}[r.Intn(4)]
		}
		l = append(l, o)
		left -= 2 + size
		if r.Intn(20) == 0 {
			break
		}
	}
	return l
}

// padded is the encoding of l with bytes 0 before its options and its end, and
// behind that, as far as there is room for them.
func padded(r *rand.Rand, l []api.Option, b []byte) []byte {
	left := 1024 - len(b)
	some := func() []byte {
		n := min(r.Intn(4), left)
		left -= n
		return zeros(n)
	}
	var out []byte
	for _, o := range l {
		size := 2 + len(o.Data)
		out = slices.Concat(out, some(), b[:size])
		b = b[size:]
	}
	return slices.Concat(out, some(), b, some())
}

func TestDecodeOfEncodeReturnsTheOptions(t *testing.T) {
	r := rand.New(rand.NewSource(2))
	for range 5000 {
		l := anyOptions(r)
		b, e := option.Encode(l)
		if e != api.OK {
			t.Fatalf("Encode(%v): %d", l, e)
		}
		if m, e := option.Decode(b); !same(m, l) || e != api.OK {
			t.Fatalf("Decode(Encode(%v)) = %v, %d", l, m, e)
		}
		p := padded(r, l, b)
		if m, e := option.Decode(p); !same(m, l) || e != api.OK {
			t.Fatalf("Decode(%v) = %v, %d, want %v, OK", p, m, e, l)
		}
	}
}

func TestDecodeOfEncodeAtTheEdges(t *testing.T) {
	for _, l := range [][]api.Option{
		nil,
		exactly(1024),
		slices.Repeat(list(opt(254)), 511),
		slices.Repeat(list(filled(1, 255, 255)), 3),
		slices.Repeat(list(filled(255-1, 253, 0)), 4),
	} {
		b, e := option.Encode(l)
		if m, f := option.Decode(b); e != api.OK || f != api.OK || !same(m, l) {
			t.Errorf("Decode(Encode(%v)) = %v, %d, %d", l, m, e, f)
		}
	}
}

// others is the options of l with other Codes.
func others(l []api.Option, code int) []api.Option {
	var out []api.Option
	for _, o := range l {
		if o.Code != code {
			out = append(out, o)
		}
	}
	return out
}

func TestFindFindsWhatWasPut(t *testing.T) {
	r := rand.New(rand.NewSource(3))
	for range 5000 {
		l := anyOptions(r)
		code := []int{1, 53, 61, 254, r.Intn(400) - 50}[r.Intn(5)]
		data := filled(code, r.Intn(300), byte(r.Intn(256))).Data
		before := cloned(l)
		m := option.Put(l, code, data)
		if b, is := option.Find(m, code); !is || !bytes.Equal(b, data) {
			t.Fatalf("Find(Put(%v, %d, %v)) = %v, %v", l, code, data, b, is)
		}
		rest := others(m, code)
		if !same(rest, others(l, code)) || len(m) != len(rest)+1 || !same(l, before) {
			t.Fatalf("Put(%v, %d, %v) = %v", l, code, data, m)
		}
		place := slices.IndexFunc(m, func(o api.Option) bool { return o.Code == code })
		want := slices.IndexFunc(l, func(o api.Option) bool { return o.Code == code })
		if want < 0 {
			want = len(l)
		}
		if place != want {
			t.Fatalf("Put(%v, %d, %v) put it at %d, want %d", l, code, data, place, want)
		}
		if again := option.Put(m, code, data); !same(again, m) {
			t.Fatalf("Put once more = %v, want %v", again, m)
		}
	}
}

// P1 and P2: whatever bytes are given, Decode ends, and what it returned comes back from its encoding.

// pieces is what bytes are made of that are nearly an encoding.
var pieces = [][]byte{{0}, {255}, {53, 1, 1}, {53, 0}, {61, 2, 0, 255}, {7}, {7, 200}, {1, 2}, {254, 3, 255, 255, 255}, {255, 0}}

func TestDecodeOfAnyBytes(t *testing.T) {
	r := rand.New(rand.NewSource(4))
	for i := range 40000 {
		var b []byte
		for range r.Intn(10) {
			b = append(b, pieces[r.Intn(len(pieces))]...)
		}
		if i%2 == 0 {
			b = make([]byte, r.Intn(1100))
			r.Read(b)
		}
		before := slices.Clone(b)
		l, e := option.Decode(b)
		if !bytes.Equal(b, before) {
			t.Fatalf("Decode changed %v into %v", before, b)
		}
		if e != api.OK && (e != api.ErrForm || len(l) != 0) {
			t.Fatalf("Decode(%v) = %v, %d", b, l, e)
		}
		if e == api.OK {
			c, e := option.Encode(l)
			if m, f := option.Decode(c); e != api.OK || f != api.OK || !same(m, l) {
				t.Fatalf("Decode(%v) = %v, whose encoding %v, %d decodes as %v, %d", b, l, c, e, m, f)
			}
		}
	}
}
