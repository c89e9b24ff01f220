package number_test

import (
	"bytes"
	"math"
	"slices"
	"testing"

	"epitome/api"
	"epitome/number"
)

// listed are numbers with their bytes, written out by hand: the chapter's example, and the first and the last number of each length.
var listed = []struct {
	n int
	b string
}{
	{300, "\xAC\x02"},
	{0, "\x00"}, {1, "\x01"}, {2, "\x02"}, {64, "\x40"}, {126, "\x7E"}, {127, "\x7F"},
	{128, "\x80\x01"}, {129, "\x81\x01"}, {255, "\xFF\x01"}, {256, "\x80\x02"}, {1000, "\xE8\x07"}, {16383, "\xFF\x7F"},
	{16384, "\x80\x80\x01"}, {16385, "\x81\x80\x01"}, {65536, "\x80\x80\x04"}, {1 << 20, "\x80\x80\x40"}, {2097151, "\xFF\xFF\x7F"},
	{2097152, "\x80\x80\x80\x01"}, {2097153, "\x81\x80\x80\x01"}, {1 << 27, "\x80\x80\x80\x40"}, {1<<28 - 2, "\xFE\xFF\xFF\x7F"}, {1<<28 - 1, "\xFF\xFF\xFF\x7F"},
}

// noNumbers are those that have no bytes; cut to fewer bits, or without their sign, many of them would have some.
var noNumbers = []int{
	1 << 28, 1<<28 + 1, 1 << 29, math.MaxInt32, 1 << 31, 1 << 32, 1<<32 + 300, 1<<35 - 1, 1 << 35, 1 << 56, 1<<62 + 300, math.MaxInt - 1, math.MaxInt,
	-1, -2, -127, -128, -300, 1 - 1<<28, -1 << 28, math.MinInt32, -1 << 32, 300 - 1<<32, math.MinInt + 300, math.MinInt + 1, math.MinInt,
}

// tails are what may stand behind a number, among it other numbers, and what is none.
var tails = []string{"\x00", "\x01", "\x7F", "\x80", "\xFF", "\x80\x00", "\x80\x01", "\x80\x80\x80\x80", "\xFF\xFF\xFF\xFF\xFF\x00", "abc"}

// bounds are the bytes at which something may come to be another thing, and some ordinary ones.
const bounds = "\x00\x01\x02\x40\x7E\x7F\x80\x81\xAC\xC0\xFE\xFF"

// encode is the bytes of a number from 0 to api.MaxCode, each worked out by itself.
func encode(n int) []byte {
	size := 1
	for _, first := range []int{128, 16384, 2097152} {
		if n >= first {
			size++
		}
	}
	b := make([]byte, size)
	for i := range b {
		b[i] = byte(n >> (7 * i) & 127)
		if i < size-1 {
			b[i] |= 128
		}
	}
	return b
}

// decode is what Take must tell, by the chapter's words one by one.
func decode(b []byte) (n, used int, e api.Errno) {
	end := slices.IndexFunc(b, func(x byte) bool { return x < 128 })
	switch {
	case len(b) >= 4 && (end < 0 || end >= 4):
		return 0, 0, api.ErrForm
	case end < 0:
		return 0, 0, api.ErrShort
	case end > 0 && b[end] == 0:
		return 0, 0, api.ErrForm
	}
	for i := end; i >= 0; i-- {
		n = n*128 + int(b[i])%128
	}
	return n, end + 1, api.OK
}

func checkPut(t *testing.T, n int, want []byte, wantCode api.Errno) {
	t.Helper()
	if got, code := number.Put(n); !bytes.Equal(got, want) || code != wantCode {
		t.Errorf("Put(%d) = %x, %d, want %x, %d", n, got, code, want, wantCode)
	}
}

func checkTake(t *testing.T, b []byte, want, wantUsed int, wantCode api.Errno) {
	t.Helper()
	given := bytes.Clone(b)
	if got, used, code := number.Take(b); got != want || used != wantUsed || code != wantCode {
		t.Errorf("Take(%x) = %d, %d, %d, want %d, %d, %d", given, got, used, code, want, wantUsed, wantCode)
	}
	if !bytes.Equal(b, given) {
		t.Errorf("Take(%x) changed what it was given to %x", given, b)
	}
}

// checkTold holds Take of b against the chapter's words, and what is taken against what Put makes of it.
func checkTold(t *testing.T, b []byte) {
	want, wantUsed, wantCode := decode(b)
	n, used, code := number.Take(b)
	if n != want || used != wantUsed || code != wantCode {
		t.Fatalf("Take(%x) = %d, %d, %d, want %d, %d, %d", b, n, used, code, want, wantUsed, wantCode)
	}
	if code != api.OK {
		return
	}
	if again, code := number.Put(n); code != api.OK || !bytes.Equal(again, b[:used]) {
		t.Fatalf("Take(%x) = %d, %d, but Put(%d) = %x, %d", b, n, used, n, again, code)
	}
}

// P2.1: ordinary numbers, and the edges of each length.
func TestNumbersArePut(t *testing.T) {
	for _, x := range listed {
		checkPut(t, x.n, []byte(x.b), api.OK)
	}
}

// P2.1: what is below 0, or above 2^28 - 1.
func TestNoNumbersAreTold(t *testing.T) {
	for _, n := range noNumbers {
		if b, code := number.Put(n); b != nil || code != api.ErrSize {
			t.Errorf("Put(%d) = %x, %d, want nil, %d", n, b, code, api.ErrSize)
		}
	}
}

// P2.1: the bytes are the caller's own: neither calls that follow, nor what becomes of the bytes of others, change them.
func TestWhatIsPutIsItsOwn(t *testing.T) {
	spoilt, held := make([][]byte, len(listed)), make([][]byte, len(listed))
	for i, x := range listed {
		spoilt[i], _ = number.Put(x.n)
		held[i], _ = number.Put(x.n)
	}
	for _, b := range spoilt {
		b = b[:cap(b)]
		for i := range b {
			b[i] = 0xFF
		}
	}
	for i, x := range listed {
		if string(held[i]) != x.b {
			t.Errorf("what Put(%d) told came to be %x", x.n, held[i])
		}
		checkPut(t, x.n, []byte(x.b), api.OK)
	}
}

// P2.2: ordinary numbers, and the edges of each length, alone and with others behind them.
func TestNumbersAreTaken(t *testing.T) {
	for _, x := range listed {
		checkTake(t, []byte(x.b), x.n, len(x.b), api.OK)
		for _, tail := range tails {
			checkTake(t, []byte(x.b+tail), x.n, len(x.b), api.OK)
		}
	}
}

// P2.2: fewer than four bytes, of which none is the last one.
func TestShortBytesAreTold(t *testing.T) {
	checkTake(t, nil, 0, 0, api.ErrShort)
	for _, b := range []string{"", "\x80", "\x81", "\xAC", "\xFF", "\x80\x80", "\xAC\x82", "\xFF\xFF", "\x80\x80\x80", "\xAC\x82\x80", "\xFF\xFF\xFF"} {
		checkTake(t, []byte(b), 0, 0, api.ErrShort)
	}
}

// P2.2: a part of a number's bytes is none, and what stands behind that part in memory does not matter.
func TestPartsOfNumbersAreShort(t *testing.T) {
	for _, x := range listed {
		for used := range len(x.b) {
			checkTake(t, []byte(x.b)[:used], 0, 0, api.ErrShort)
		}
	}
}

// P2.2: four bytes that each ask for another one, whatever follows.
func TestLongBytesAreWrong(t *testing.T) {
	for _, b := range []string{"\x80\x80\x80\x80", "\xAC\x82\x80\x81", "\xFF\xFF\xFF\x80", "\xFF\xFF\xFF\xFF"} {
		checkTake(t, []byte(b), 0, 0, api.ErrForm)
		for _, tail := range tails {
			checkTake(t, []byte(b+tail), 0, 0, api.ErrForm)
		}
	}
}

// P2.2: a last byte of 0 behind others; alone, it is a number.
func TestLastByteOfNothingIsWrong(t *testing.T) {
	for _, b := range []string{"\x80\x00", "\xAC\x00", "\xFF\x00", "\x80\x80\x00", "\xAC\x82\x00", "\xFF\xFF\x00", "\x80\x80\x80\x00", "\xAC\x82\x80\x00", "\xFF\xFF\xFF\x00"} {
		checkTake(t, []byte(b), 0, 0, api.ErrForm)
		for _, tail := range tails {
			checkTake(t, []byte(b+tail), 0, 0, api.ErrForm)
		}
	}
	checkTake(t, []byte("\x00"), 0, 1, api.OK)
	checkTake(t, []byte("\x00\x00"), 0, 1, api.OK)
	checkTake(t, []byte("\x05\x00"), 5, 1, api.OK)
}

// P2.2 and P2.3: all bytes up to three of them.
func TestAllShortBytes(t *testing.T) {
	checkTold(t, []byte{})
	for n := range 1 << 24 {
		b := []byte{byte(n), byte(n >> 8), byte(n >> 16)}
		for size := 3; size > 0 && n < 1<<(8*size); size-- {
			checkTold(t, b[:size])
		}
	}
}

// P2.2 and P2.3: all rows of four and of five bytes of those in bounds.
func TestBoundsOfLongerBytes(t *testing.T) {
	rows := len(bounds) * len(bounds) * len(bounds) * len(bounds) * len(bounds)
	for n := range rows {
		var b [5]byte
		for i := range b {
			b[i] = bounds[n%len(bounds)]
			n /= len(bounds)
		}
		checkTold(t, b[:])
		checkTold(t, b[:4])
	}
}

// checkRound puts a number, and takes it again, alone and with others behind it.
func checkRound(t *testing.T, n int) {
	t.Helper()
	want := encode(n)
	checkPut(t, n, want, api.OK)
	b, _ := number.Put(n)
	checkTake(t, b, n, len(want), api.OK)
	for _, tail := range tails {
		checkTake(t, append(bytes.Clone(b), tail...), n, len(want), api.OK)
	}
}

// P2.1 and P2.3: all numbers of one and two bytes, those around each power of 2, and some of all sizes, are taken as they were put.
func TestWhatIsPutIsTaken(t *testing.T) {
	for n := range 1 << 15 {
		checkRound(t, n)
	}
	for bit := 15; bit < 28; bit++ {
		for n := 1<<bit - 70; n <= 1<<bit+70; n++ {
			checkRound(t, n)
		}
	}
	// A step that shares no factor with 128 comes by all that a byte may be.
	for n := 0; n <= api.MaxCode; n += 1021 {
		checkRound(t, n)
	}
	checkRound(t, api.MaxCode)
}

// P2.3: numbers that stand one behind the other are taken one by one.
func TestManyNumbersAreTaken(t *testing.T) {
	var b []byte
	for _, x := range listed {
		one, _ := number.Put(x.n)
		b = append(b, one...)
	}
	for _, x := range listed {
		checkTake(t, b, x.n, len(x.b), api.OK)
		if t.Failed() {
			return
		}
		b = b[len(x.b):]
	}
	checkTake(t, b, 0, 0, api.ErrShort)
}
