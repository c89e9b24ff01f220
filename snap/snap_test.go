package snap_test

import (
	"bytes"
	"fmt"
	"math"
	"math/rand"
	"runtime"
	"slices"
	"strings"
	"testing"
	"unicode/utf8"

	"epitome/api"
	"epitome/snap"
)

// The bounds, written out anew: mostBytes is how many bytes a text, and how many numbers a row, may have at most, greatest the greatest number of a row.
const (
	mostBytes = 65536
	greatest  = 268435455
)

// points are code points of one, two, three and four bytes, the first and the last of each, those around the numbers that are none, U+FFFD, and one that stands on the one ahead.
var points = []string{
	"a", "\x00", "\x7F", "\xC2\x80", "\xC3\xA9", "\xCC\x81", "\xDF\xBF", "\xE0\xA0\x80", "\xE2\x82\xAC", "\xED\x9F\xBF", "\xEE\x80\x80",
	"\xEF\xBF\xBD", "\xEF\xBF\xBF", "\xF0\x90\x80\x80", "\xF0\x9F\x98\x80", "\xF4\x8F\xBF\xBF",
}

// noTexts are bytes that are no text.
var noTexts = []string{
	"\x80", "\xBF", "\xFF", "\xC3", "\xC0\x80", "\xC1\xBF", "\xC3a", "a\xFF", "\xFFa", "\xE2\x82", "\xE0\x9F\xBF", "\xED\xA0\x80", "\xED\xBF\xBF",
	"\xF0\x9F\x98", "\xF0\x8F\xBF\xBF", "\xF4\x90\x80\x80", "\xF8\x88\x80\x80\x80",
}

// tails are what may stand behind the bytes of a text, or a row, among it those of others, and what is none.
var tails = []string{"\x00", "\x01", "\x01\x00", "\x02ab", "\x7F", "\x80", "\x80\x00", "\x80\x80\x80\x80", "\xFF\xFF\xFF\xFF\xFF\x00", "abc", "\xA9", "\xBF\xBF"}

// numbers are bytes that no number has, each with its error; one that is too short is wrong with nothing behind it alone.
var numbers = []struct {
	b    string
	code api.Errno
}{
	{"", api.ErrShort}, {"\x80", api.ErrShort}, {"\xAC", api.ErrShort}, {"\xFF", api.ErrShort}, {"\x85\x80", api.ErrShort}, {"\x81\xFF\x80", api.ErrShort},
	{"\x80\x80\x80\x80", api.ErrForm}, {"\x85\x80\x80\x80", api.ErrForm}, {"\xFF\xFF\xFF\xFF", api.ErrForm}, {"\x81\x80\x80\x80\x01", api.ErrForm}, {"\x80\x80\x80\x80\x00", api.ErrForm},
	{"\x80\x00", api.ErrForm}, {"\x81\x00", api.ErrForm}, {"\xFF\x00", api.ErrForm}, {"\x82\x80\x00", api.ErrForm}, {"\x81\x80\x80\x00", api.ErrForm},
}

// show is a text, a row or bytes to be read, no more than the beginning.
func show[T string | []byte | []int](l T) string {
	switch x := any(l).(type) {
	case []int:
		return fmt.Sprintf("%d numbers %d", len(x), x[:min(len(x), 12)])
	case []byte:
		return fmt.Sprintf("%d bytes %x", len(x), x[:min(len(x), 40)])
	}
	s := any(l).(string)
	return fmt.Sprintf("%d bytes %+q", len(s), s[:min(len(s), 40)])
}

// digits is a number's bytes.
func digits(n int) string {
	if n < 128 {
		return string([]byte{byte(n)})
	}
	return string([]byte{byte(n%128 + 128)}) + digits(n/128)
}

// letters is a text of so many bytes.
func letters(n int) string { return strings.Repeat("abcdefghijklmnopqrstuvw", n/23+1)[:n] }

// number is what is taken of a number, by its chapter's words one by one.
func number(b []byte) (n, used int, e api.Errno) {
	end := 0
	for end < len(b) && end < 4 && b[end] >= 128 {
		end++
	}
	switch {
	case end == 4:
		return 0, 0, api.ErrForm
	case end == len(b):
		return 0, 0, api.ErrShort
	case end > 0 && b[end] == 0:
		return 0, 0, api.ErrForm
	}
	for i := end; i >= 0; i-- {
		n = n*128 + int(b[i])%128
	}
	return n, end + 1, api.OK
}

// decode is what Take must tell, by the chapter's words one by one.
func decode(b []byte) (string, int, api.Errno) {
	n, used, e := number(b)
	if e != api.OK {
		return "", 0, e
	}
	if n > mostBytes {
		return "", 0, api.ErrForm
	}
	if used+n > len(b) {
		return "", 0, api.ErrShort
	}
	if !utf8.Valid(b[used : used+n]) {
		return "", 0, api.ErrForm
	}
	return string(b[used : used+n]), used + n, api.OK
}

// encodeRow is what PutRow must tell of a row that may be put.
func encodeRow(l []int) string {
	var b strings.Builder
	b.WriteString(digits(len(l)) + digits(l[0]))
	for i := 1; i < len(l); i++ {
		b.WriteString(digits(l[i] - l[i-1] - 1))
	}
	return b.String()
}

// decodeRow is what TakeRow must tell, by the chapter's words one by one.
func decodeRow(b []byte) ([]int, int, api.Errno) {
	many, used, e := number(b)
	if e != api.OK {
		return nil, 0, e
	}
	if many < 1 || many > mostBytes {
		return nil, 0, api.ErrForm
	}
	var l []int
	for i := 0; i < many; i++ {
		n, size, e := number(b[used:])
		if e != api.OK {
			return nil, 0, e
		}
		if i > 0 {
			n += l[i-1] + 1
		}
		if n > greatest {
			return nil, 0, api.ErrForm
		}
		l = append(l, n)
		used += size
	}
	return l, used, api.OK
}

// checkPut holds Put of a string against what is wanted of it, and asks twice: what was told once must not come to be another thing.
func checkPut(t *testing.T, s, want string, code api.Errno) {
	t.Helper()
	for range 2 {
		if got, e := snap.Put(s); string(got) != want || e != code {
			t.Errorf("Put(%s) = %s, %d, want %s, %d", show(s), show(got), e, show([]byte(want)), code)
		}
	}
}

// checkPutRow is checkPut of a row; what is handed in, and what stands behind it in its memory, stays as it was.
func checkPutRow(t *testing.T, l []int, want string, code api.Errno) {
	t.Helper()
	given := make([]int, len(l), len(l)+3)
	copy(given, l)
	copy(given[len(l):cap(given)], []int{greatest - 2, -11, greatest - 1})
	as := slices.Clone(given[:cap(given)])
	for range 2 {
		if got, e := snap.PutRow(given); string(got) != want || e != code {
			t.Errorf("PutRow(%s) = %s, %d, want %s, %d", show(l), show(got), e, show([]byte(want)), code)
		}
	}
	if !slices.Equal(given[:cap(given)], as) {
		t.Errorf("PutRow changed %s", show(l))
	}
}

// behind is what stands behind bytes in the memory in which they are handed in.
const behind = "\x01\x00xyz\x02\x00rest"

// checkTake holds Take of bytes against what is wanted of them, as checkPutRow does PutRow.
func checkTake(t *testing.T, b, want string, used int, code api.Errno) {
	t.Helper()
	given := []byte(b + behind)[:len(b)]
	for range 2 {
		if s, n, e := snap.Take(given); s != want || n != used || e != code {
			t.Errorf("Take(%s) = %s, %d, %d, want %s, %d, %d", show([]byte(b)), show(s), n, e, show(want), used, code)
		}
	}
	if string(given[:len(b)+len(behind)]) != b+behind {
		t.Errorf("Take changed %s", show([]byte(b)))
	}
}

// checkTakeRow is checkTake of a row's bytes.
func checkTakeRow(t *testing.T, b string, want []int, used int, code api.Errno) {
	t.Helper()
	given := []byte(b + behind)[:len(b)]
	for range 2 {
		if l, n, e := snap.TakeRow(given); !slices.Equal(l, want) || n != used || e != code {
			t.Errorf("TakeRow(%s) = %s, %d, %d, want %s, %d, %d", show([]byte(b)), show(l), n, e, show(want), used, code)
		}
	}
	if string(given[:len(b)+len(behind)]) != b+behind {
		t.Errorf("TakeRow changed %s", show([]byte(b)))
	}
}

// checkWrong holds Take of bytes against the error that is wanted: each other result is zero.
func checkWrong(t *testing.T, b string, code api.Errno) {
	t.Helper()
	if _, _, want := decode([]byte(b)); want != code {
		t.Fatalf("what is wanted of Take(%s) is wrong: %d, not %d", show([]byte(b)), code, want)
	}
	checkTake(t, b, "", 0, code)
}

// checkWrongRow is checkWrong of a row's bytes.
func checkWrongRow(t *testing.T, b string, code api.Errno) {
	t.Helper()
	if _, _, want := decodeRow([]byte(b)); want != code {
		t.Fatalf("what is wanted of TakeRow(%s) is wrong: %d, not %d", show([]byte(b)), code, want)
	}
	checkTakeRow(t, b, nil, 0, code)
}

// step is how far behind a beginning of n bytes the next one is that is tried. Not each one of long bytes is, for that would take all day: the first and the last ones, and some of those between.
func step(n, all int) int {
	const near, far = 8, 5000
	if all < far || n < near || n >= all-near {
		return 1
	}
	return min(all/8, all-near-n)
}

// checkText holds to P15.1 and P15.3 at a text, of which b is Put's: it is put, taken, with anything behind it, and no beginning of it is enough.
func checkText(t *testing.T, s, b string) {
	t.Helper()
	checkPut(t, s, b, api.OK)
	checkTake(t, b, s, len(b), api.OK)
	for _, tail := range tails {
		checkTake(t, b+tail, s, len(b), api.OK)
	}
	for n := 0; n < len(b); n += step(n, len(b)) {
		checkTake(t, b[:n], "", 0, api.ErrShort)
	}
}

// checkRow holds to P15.2 and P15.3 at a row, as checkText does at a text.
func checkRow(t *testing.T, l []int, b string) {
	t.Helper()
	checkPutRow(t, l, b, api.OK)
	checkTakeRow(t, b, l, len(b), api.OK)
	for _, tail := range tails {
		checkTakeRow(t, b+tail, l, len(b), api.OK)
	}
	for n := 0; n < len(b); n += step(n, len(b)) {
		checkTakeRow(t, b[:n], nil, 0, api.ErrShort)
	}
}

// checkTold holds Take of bytes against the chapter's words, and what is taken against what Put makes of it; and the same of TakeRow and PutRow.
func checkTold(t *testing.T, b []byte) {
	want, wantUsed, wantCode := decode(b)
	s, used, code := snap.Take(b)
	if s != want || used != wantUsed || code != wantCode {
		t.Fatalf("Take(%s) = %s, %d, %d, want %s, %d, %d", show(b), show(s), used, code, show(want), wantUsed, wantCode)
	}
	if code == api.OK {
		if again, e := snap.Put(s); e != api.OK || !bytes.Equal(again, b[:used]) {
			t.Fatalf("Take(%s) = %s, %d, but Put of it is %s, %d", show(b), show(s), used, show(again), e)
		}
	}
	wantRow, wantUsed, wantCode := decodeRow(b)
	l, used, code := snap.TakeRow(b)
	if !slices.Equal(l, wantRow) || used != wantUsed || code != wantCode {
		t.Fatalf("TakeRow(%s) = %s, %d, %d, want %s, %d, %d", show(b), show(l), used, code, show(wantRow), wantUsed, wantCode)
	}
	if code == api.OK {
		if again, e := snap.PutRow(l); e != api.OK || !bytes.Equal(again, b[:used]) {
			t.Fatalf("TakeRow(%s) = %s, %d, but PutRow of it is %s, %d", show(b), show(l), used, show(again), e)
		}
	}
}

// P15.2: the chapter's example.
func TestExample(t *testing.T) {
	checkRow(t, []int{3, 4, 9}, "\x03\x03\x00\x04")
}

// P15.1: the empty text is one byte, and no bytes at all are too few, of a row too.
func TestNothing(t *testing.T) {
	checkText(t, "", "\x00")
	if s, used, e := snap.Take(nil); s != "" || used != 0 || e != api.ErrShort {
		t.Errorf("Take(nil) = %s, %d, %d", show(s), used, e)
	}
	if l, used, e := snap.TakeRow(nil); len(l) != 0 || used != 0 || e != api.ErrShort {
		t.Errorf("TakeRow(nil) = %s, %d, %d", show(l), used, e)
	}
}

// P15.1 and P15.3: ordinary texts, their bytes written out by hand.
func TestOrdinaryTexts(t *testing.T) {
	for s, b := range map[string]string{
		"a": "\x01a", "ab": "\x02ab", "\x00": "\x01\x00", "\x00\x01\x02": "\x03\x00\x01\x02", "\x01a": "\x02\x01a",
		"\xC3\xA9": "\x02\xC3\xA9", "\xE2\x82\xAC": "\x03\xE2\x82\xAC", "\xF0\x9F\x98\x80": "\x04\xF0\x9F\x98\x80",
		"a\xC3\xA9\xE2\x82\xAC\xF0\x9F\x98\x80b": "\x0Ba\xC3\xA9\xE2\x82\xAC\xF0\x9F\x98\x80b", "one, two\n": "\x09one, two\n",
	} {
		checkText(t, s, b)
	}
}

// P15.1 and P15.3: texts of code points of one, two, three and four bytes: what is put ahead is how many bytes there are, not how many code points.
func TestCodePoints(t *testing.T) {
	all := strings.Join(points, "")
	for _, p := range append(slices.Clone(points), all) {
		for _, s := range []string{p, p + "b", "b" + p, p + p, p + all, all + p, strings.Repeat(p, 100), strings.Repeat(p, 20000/len(p))} {
			checkText(t, s, digits(len(s))+s)
		}
	}
}

// bounds are numbers with their bytes, written out by hand: the first and the last ones that have one, two, three and four bytes among them.
var bounds = []struct {
	n int
	b string
}{
	{0, "\x00"}, {1, "\x01"}, {2, "\x02"}, {63, "\x3F"}, {64, "\x40"}, {126, "\x7E"}, {127, "\x7F"},
	{128, "\x80\x01"}, {129, "\x81\x01"}, {255, "\xFF\x01"}, {256, "\x80\x02"}, {300, "\xAC\x02"}, {16382, "\xFE\x7F"}, {16383, "\xFF\x7F"},
	{16384, "\x80\x80\x01"}, {16385, "\x81\x80\x01"}, {65535, "\xFF\xFF\x03"}, {65536, "\x80\x80\x04"}, {65537, "\x81\x80\x04"}, {2097151, "\xFF\xFF\x7F"},
	{2097152, "\x80\x80\x80\x01"}, {2097153, "\x81\x80\x80\x01"}, {greatest - 1, "\xFE\xFF\xFF\x7F"}, {greatest, "\xFF\xFF\xFF\x7F"},
}

// P15.1 and P15.3: texts of which the length has one, two and three bytes, at the bounds between them.
func TestLengths(t *testing.T) {
	for _, x := range bounds {
		if x.n <= mostBytes {
			checkText(t, letters(x.n), x.b+letters(x.n))
		}
	}
	for n := range 600 {
		checkText(t, letters(n), digits(n)+letters(n))
	}
}

// P15.1: what is no text is not put, at each place of a string; one that is too long is told to be no text first.
func TestWhatIsNoTextIsNotPut(t *testing.T) {
	for _, x := range noTexts {
		for _, ahead := range []string{"", "a", "\xC3\xA9", "\xEF\xBF\xBD", letters(40), letters(mostBytes - 1), letters(mostBytes), letters(2 * mostBytes)} {
			for _, rest := range []string{"", "b", "\xE2\x82\xAC", letters(50), letters(mostBytes + 1)} {
				checkPut(t, ahead+x+rest, "", api.ErrText)
			}
		}
	}
	for _, p := range points {
		for cut := 1; cut < len(p); cut++ {
			checkPut(t, p[:cut], "", api.ErrText)
			checkPut(t, "a"+p[cut:], "", api.ErrText)
			checkPut(t, p+p[:cut]+p, "", api.ErrText)
		}
	}
}

// P15.1: 65536 bytes are put, however many code points these are, and one more are too many.
func TestHowLongATextMayBe(t *testing.T) {
	for _, p := range points {
		fits := strings.Repeat(p, mostBytes/len(p))
		fits += letters(mostBytes - len(fits))
		checkText(t, fits, "\x80\x80\x04"+fits)
		for _, long := range []string{fits + "x", "x" + fits, fits + p, fits + fits, strings.Repeat(p, mostBytes+1)} {
			checkPut(t, long, "", api.ErrSize)
		}
	}
	checkPut(t, letters(1<<20), "", api.ErrSize)
}

// P15.1: bytes that no number has, with nothing and with anything behind.
func TestLengthsThatAreWrong(t *testing.T) {
	for _, x := range numbers {
		checkWrong(t, x.b, x.code)
		if x.code == api.ErrForm {
			for _, tail := range append([]string{letters(200), "\xFF"}, tails...) {
				checkWrong(t, x.b+tail, x.code)
			}
		}
	}
}

// P15.1: a length above 65536, with none, few, and all of the bytes behind, whether or not they are a text.
func TestLengthsThatAreTooGreat(t *testing.T) {
	for _, n := range []int{mostBytes + 1, mostBytes + 2, 2 * mostBytes, 1 << 20, 1<<27 + 1, greatest} {
		for _, size := range []int{0, 1, 2, 100, mostBytes - 1, mostBytes, n} {
			if size <= 1<<20 {
				checkWrong(t, digits(n)+letters(size), api.ErrForm)
				checkWrong(t, digits(n)+strings.Repeat("\xFF", size), api.ErrForm)
			}
		}
	}
}

// P15.1: fewer bytes than the length says, none and all but one among them, whether or not they are a text.
func TestTextsThatAreShort(t *testing.T) {
	for _, n := range []int{1, 2, 3, 127, 128, 16383, 16384, mostBytes - 1, mostBytes} {
		for _, fewer := range []int{0, 1, n / 2, n - 1} {
			if fewer < n {
				checkWrong(t, digits(n)+letters(fewer), api.ErrShort)
				checkWrong(t, digits(n)+strings.Repeat("\xFF", fewer), api.ErrShort)
				checkWrong(t, digits(n)+strings.Repeat("\x80", fewer), api.ErrShort)
			}
		}
	}
	for _, x := range noTexts {
		checkWrong(t, digits(len(x)+1)+x, api.ErrShort)
	}
}

// P15.1: bytes that are no text, at each place of one; a code point that a length cuts is none, though the rest of it stands behind.
func TestTextsThatAreNone(t *testing.T) {
	for _, x := range noTexts {
		for _, s := range []string{x, "a" + x, x + "\xEF\xBF\xBD", letters(40) + x, strings.Repeat("\xC3\xA9", 9000) + x + "b", letters(mostBytes-len(x)) + x} {
			for _, tail := range append([]string{""}, tails...) {
				checkWrong(t, digits(len(s))+s+tail, api.ErrForm)
			}
		}
	}
	for _, p := range points {
		for cut := 1; cut < len(p); cut++ {
			checkWrong(t, digits(cut)+p, api.ErrForm)
			checkWrong(t, digits(cut+1)+"a"+p, api.ErrForm)
			checkWrong(t, digits(len(p)-cut)+p[cut:], api.ErrForm)
		}
	}
}

// P15.2 and P15.3: rows of one number, 0, 1 and 2^28 - 1 among them.
func TestRowsOfOne(t *testing.T) {
	for _, x := range bounds {
		checkRow(t, []int{x.n}, "\x01"+x.b)
	}
}

// P15.2 and P15.3: rows of numbers that are next to each other, and that are far from each other: by one, two, three and four bytes, first, in the middle and last.
func TestOrdinaryRows(t *testing.T) {
	for _, x := range []struct {
		l []int
		b string
	}{
		{[]int{0, 1}, "\x02\x00\x00"},
		{[]int{0, 2}, "\x02\x00\x01"},
		{[]int{0, 1, 2, 3, 4}, "\x05\x00\x00\x00\x00\x00"},
		{[]int{7, 8, 9}, "\x03\x07\x00\x00"},
		{[]int{1, 3, 6, 10}, "\x04\x01\x01\x02\x03"},
		{[]int{5, 133}, "\x02\x05\x7F"},
		{[]int{5, 134}, "\x02\x05\x80\x01"},
		{[]int{200, 500, 501}, "\x03\xC8\x01\xAB\x02\x00"},
		{[]int{0, greatest}, "\x02\x00\xFE\xFF\xFF\x7F"},
		{[]int{0, 1, greatest}, "\x03\x00\x00\xFD\xFF\xFF\x7F"},
		{[]int{greatest - 1, greatest}, "\x02\xFE\xFF\xFF\x7F\x00"},
		{[]int{0, greatest - 1, greatest}, "\x03\x00\xFD\xFF\xFF\x7F\x00"},
		{[]int{1000000, 200000000, 260000000}, "\x03\xC0\x84\x3D\xBF\xFF\xF1\x5E\xFF\x8D\xCE\x1C"},
	} {
		checkRow(t, x.l, x.b)
	}
	for _, x := range bounds {
		for _, y := range bounds {
			if x.n+y.n+1 <= greatest {
				checkRow(t, []int{x.n, x.n + y.n + 1}, "\x02"+x.b+y.b)
			}
			if x.n+y.n+10 <= greatest {
				checkRow(t, []int{2, x.n + 3, x.n + y.n + 4, x.n + y.n + 5}, "\x04\x02"+x.b+y.b+"\x00")
			}
		}
	}
}

// row is so many numbers from first on, each by so much above the one ahead.
func row(many, first, apart int) []int {
	l := make([]int, many)
	for i := range l {
		l[i] = first + i*apart
	}
	return l
}

// P15.2 and P15.3: rows of which the count has one, two and three bytes, at the bounds between them, and of the greatest one, near and far from each other.
func TestCounts(t *testing.T) {
	for _, x := range bounds {
		if x.n == 0 || x.n > mostBytes {
			continue
		}
		checkRow(t, row(x.n, 0, 1), x.b+strings.Repeat("\x00", x.n))
		checkRow(t, row(x.n, 9, 100), x.b+"\x09"+strings.Repeat("\x63", x.n-1))
		checkRow(t, row(x.n, greatest-x.n+1, 1), x.b+digits(greatest-x.n+1)+strings.Repeat("\x00", x.n-1))
		checkRow(t, row(x.n, 3, 4095), x.b+"\x03"+strings.Repeat("\xFE\x1F", x.n-1))
	}
	for n := 1; n < 400; n++ {
		checkRow(t, row(n, n, 5), digits(n)+digits(n)+strings.Repeat("\x04", n-1))
	}
}

// P15.2: a row of no number is not put.
func TestNoNumber(t *testing.T) {
	checkPutRow(t, nil, "", api.ErrSize)
	checkPutRow(t, []int{}, "", api.ErrSize)
	if b, e := snap.PutRow(nil); len(b) != 0 || e != api.ErrSize {
		t.Errorf("PutRow(nil) = %x, %d", b, e)
	}
	if b, e := snap.PutRow([]int{5, 6}[:0]); len(b) != 0 || e != api.ErrSize {
		t.Errorf("PutRow of none = %x, %d", b, e)
	}
}

// P15.2: more than 65536 numbers are not put; that as many are TestCounts holds.
func TestTooManyNumbers(t *testing.T) {
	for _, n := range []int{mostBytes + 1, mostBytes + 2, 2 * mostBytes, 1 << 20} {
		checkPutRow(t, row(n, 0, 1), "", api.ErrSize)
		checkPutRow(t, row(n, 7, 200), "", api.ErrSize)
		checkPutRow(t, row(n, greatest-n+1, 1), "", api.ErrSize)
		checkPutRow(t, row(n, 0, 0), "", api.ErrSize)
	}
}

// outside are numbers that no row has.
var outside = []int{-1, -2, -128, -greatest, -greatest - 1, -1 << 31, -1 << 32, math.MinInt + 1, math.MinInt, greatest + 1, greatest + 2, 2 * greatest, 1<<32 - 1, 1 << 32, 1<<32 + 5, math.MaxInt - 1, math.MaxInt}

// P15.2: a number below 0, or above 2^28 - 1, first, in the middle, last, and alone.
func TestNumbersOutOfBounds(t *testing.T) {
	for _, n := range outside {
		checkPutRow(t, []int{n}, "", api.ErrSize)
		for _, m := range append([]int{0, 1, 5, greatest - 1, greatest}, outside...) {
			checkPutRow(t, []int{n, m}, "", api.ErrSize)
			checkPutRow(t, []int{m, n}, "", api.ErrSize)
			checkPutRow(t, []int{0, n, m}, "", api.ErrSize)
			checkPutRow(t, []int{3, 4, m, n, m, 9}, "", api.ErrSize)
		}
	}
	checkPutRow(t, []int{-1, 0}, "", api.ErrSize)
	checkPutRow(t, []int{-3, -2, -1}, "", api.ErrSize)
	checkPutRow(t, []int{-5, 7, 9}, "", api.ErrSize)
	checkPutRow(t, []int{greatest, greatest + 1}, "", api.ErrSize)
	long := row(mostBytes, 0, 3)
	for _, n := range outside {
		for _, at := range []int{0, 1, mostBytes / 2, mostBytes - 1} {
			as := long[at]
			long[at] = n
			checkPutRow(t, long, "", api.ErrSize)
			long[at] = as
		}
	}
	checkPutRow(t, long, encodeRow(long), api.OK)
}

// P15.2: a number that is as great as the one ahead, or less, at each place.
func TestNumbersThatDoNotRise(t *testing.T) {
	for _, l := range [][]int{{0}, {5}, {greatest}, {0, 1}, {3, 4, 9}, {2, 300, 70000, greatest}, row(130, 40, 7), row(200, 0, 1)} {
		checkPutRow(t, l, encodeRow(l), api.OK)
		for at, n := range l {
			checkPutRow(t, slices.Insert(slices.Clone(l), at, n), "", api.ErrSize)
			checkPutRow(t, slices.Insert(slices.Clone(l), at+1, n-1), "", api.ErrSize)
			checkPutRow(t, slices.Insert(slices.Clone(l), at+1, 0), "", api.ErrSize)
			if at > 0 {
				swapped := slices.Clone(l)
				swapped[at-1], swapped[at] = swapped[at], swapped[at-1]
				checkPutRow(t, swapped, "", api.ErrSize)
			}
		}
	}
	for a := range 5 {
		for b := range 5 {
			for c := range 5 {
				l := []int{a, b, c}
				if a < b && b < c {
					checkRow(t, l, encodeRow(l))
				} else {
					checkPutRow(t, l, "", api.ErrSize)
				}
			}
		}
	}
	long := row(mostBytes, 1, 2)
	long[mostBytes-1] = long[mostBytes-2]
	checkPutRow(t, long, "", api.ErrSize)
}

// P15.2: bytes that no number has, as the count, and as the first number, one in the middle, and the last one.
func TestNumbersThatAreWrong(t *testing.T) {
	for _, x := range numbers {
		ends := append([]string{""}, tails...)
		if x.code == api.ErrShort {
			ends = ends[:1]
		}
		for _, tail := range ends {
			for _, ahead := range []string{"", "\x01", "\x02", "\x02\x05", "\x03\x00", "\x03\x03\x00", "\x05\x01\x80\x01\x00", digits(200) + strings.Repeat("\x00", 199), digits(mostBytes) + "\x07"} {
				checkWrongRow(t, ahead+x.b+tail, x.code)
			}
		}
	}
}

// P15.2: a count of 0, with nothing and with anything behind.
func TestACountOfNone(t *testing.T) {
	for _, tail := range append([]string{"", "\x00\x00", "\x05\x06", letters(100)}, tails...) {
		checkWrongRow(t, "\x00"+tail, api.ErrForm)
	}
}

// P15.2: a count above 65536, with none, few, and all of the numbers behind; as many are taken, and one fewer is short.
func TestCountsThatAreTooGreat(t *testing.T) {
	for _, n := range []int{mostBytes + 1, mostBytes + 2, 2 * mostBytes, 1 << 20, 1<<27 + 1, greatest} {
		for _, size := range []int{0, 1, 2, 100, mostBytes, n, n + 5} {
			if size <= 1<<20 {
				checkWrongRow(t, digits(n)+strings.Repeat("\x00", size), api.ErrForm)
				checkWrongRow(t, digits(n)+strings.Repeat("\x80", size), api.ErrForm)
			}
		}
	}
	checkWrongRow(t, digits(mostBytes), api.ErrShort)
	checkWrongRow(t, digits(mostBytes)+strings.Repeat("\x02", mostBytes-1), api.ErrShort)
}

// P15.2: a number that comes out above 2^28 - 1, at each place but the first, where none can; 2^28 - 1 itself is taken.
func TestNumbersThatComeOutTooGreat(t *testing.T) {
	for _, first := range []int{0, 1, 127, 128, 70000, greatest / 2, greatest - 1, greatest} {
		left := greatest - first
		for _, tail := range append([]string{""}, tails...) {
			if left > 0 {
				checkTakeRow(t, "\x02"+digits(first)+digits(left-1)+tail, []int{first, greatest}, 1+len(digits(first)+digits(left-1)), api.OK)
			}
			for _, by := range []int{left, left + 1, greatest} {
				if by <= greatest {
					checkWrongRow(t, "\x02"+digits(first)+digits(by)+tail, api.ErrForm)
					checkWrongRow(t, "\x05"+digits(first)+digits(by)+tail, api.ErrForm)
				}
			}
			if left > 1 {
				checkWrongRow(t, "\x03"+digits(first)+"\x00"+digits(left-1)+tail, api.ErrForm)
				checkWrongRow(t, "\x03"+digits(first)+digits(left-1)+"\x00"+tail, api.ErrForm)
				checkWrongRow(t, "\x7F"+digits(first)+digits(left-1)+"\x00"+tail, api.ErrForm)
			}
		}
	}
	// Sums that go far beyond, and round in 32 bits.
	for many := 2; many < 40; many++ {
		checkWrongRow(t, digits(many)+strings.Repeat(digits(greatest), many), api.ErrForm)
		checkWrongRow(t, digits(many)+"\x00"+strings.Repeat(digits(greatest), many-1), api.ErrForm)
	}
	checkWrongRow(t, digits(mostBytes)+strings.Repeat(digits(4096), mostBytes), api.ErrForm)
	last := row(mostBytes, 4095, 4096)
	checkRow(t, last, "\x80\x80\x04"+strings.Repeat("\xFF\x1F", mostBytes))
	checkWrongRow(t, "\x80\x80\x04\x80\x20"+strings.Repeat("\xFF\x1F", mostBytes-1), api.ErrForm)
}

// P15.2 and R3: of several things that are wrong in a row's bytes the first one from the left is told.
func TestWhichErrorIsTold(t *testing.T) {
	short := []string{"", "\x80", "\xFF\xFF", "\x85\x80\x80"}
	faults := []string{"\x80\x00", "\x85\x80\x00", "\x85\x80\x80\x80", "\xFF\xFF\xFF\xFF\x7F"}
	for _, s := range short {
		for _, f := range faults {
			checkWrongRow(t, "\x03"+f+s, api.ErrForm)
			checkWrongRow(t, "\x03\x05"+f+s, api.ErrForm)
			checkWrongRow(t, "\x7F\x05\x00"+f+s, api.ErrForm)
			checkWrongRow(t, "\x00"+f+s, api.ErrForm)
		}
		checkWrongRow(t, "\x00"+s, api.ErrForm)
		checkWrongRow(t, "\x81\x80\x04"+s, api.ErrForm)
		checkWrongRow(t, "\x03"+digits(greatest)+"\x00"+s, api.ErrForm)
		checkWrongRow(t, "\x04\x05"+digits(greatest-5)+s, api.ErrForm)
		checkWrongRow(t, "\x03\x05"+digits(greatest-6)+s, api.ErrShort)
		checkWrongRow(t, "\x02"+digits(greatest)+s, api.ErrShort)
	}
}

// P15.1, P15.2 and R1: a great count, or length, with few bytes behind it ends at once, and takes no memory for what is not there.
func TestGreatNumbersWithFewBytes(t *testing.T) {
	const times, each = 2000, 2000
	for _, b := range []string{
		digits(mostBytes), digits(mostBytes) + "\x05", digits(mostBytes) + "\x05\x06x\x07", digits(mostBytes+1) + "abc", digits(greatest), digits(greatest) + "\x05\x06x\x07",
		digits(mostBytes) + digits(greatest), digits(mostBytes-1) + digits(greatest) + "\x00",
	} {
		given := []byte(b)
		var before, after runtime.MemStats
		runtime.ReadMemStats(&before)
		for range times {
			snap.Take(given)
			snap.TakeRow(given)
		}
		runtime.ReadMemStats(&after)
		if n := after.TotalAlloc - before.TotalAlloc; n > times*each {
			t.Errorf("%d times Take and TakeRow of %x took %d bytes of memory", times, b, n)
		}
	}
}

// P15.1 to P15.3: all bytes up to three of them.
func TestAllShortBytes(t *testing.T) {
	checkTold(t, []byte{})
	for n := range 1 << 24 {
		b := []byte{byte(n), byte(n >> 8), byte(n >> 16)}
		for size := 3; size > 0 && n < 1<<(8*size); size-- {
			checkTold(t, b[:size])
		}
	}
}

// edges are bytes at which something may come to be another thing: numbers of one byte, and that go on, bytes of texts, and of what is none.
const edges = "\x00\x01\x02\x03\x04ax\x7F\x80\x81\xA9\xC3\xE2\xF0\xFF"

// P15.1 to P15.3: a length, or a count, of one to five, and all rows of five bytes of those in edges behind.
func TestBoundsOfLongerBytes(t *testing.T) {
	for n := range len(edges) * len(edges) * len(edges) * len(edges) * len(edges) {
		var b [6]byte
		for i := 1; i < len(b); i++ {
			b[i] = edges[n%len(edges)]
			n /= len(edges)
		}
		for many := range byte(5) {
			b[0] = many + 1
			checkTold(t, b[:])
		}
	}
}

// P15.1 to P15.3: what Put and PutRow gave, with one byte changed, left out or put in, and with two changed, at each place.
func TestChangedBytes(t *testing.T) {
	for _, as := range []string{
		"\x02ab", "\x0C\xC3\xA9\xE2\x82\xAC\xF0\x9F\x98\x80abc", digits(130) + strings.Repeat("\xC3\xA9", 65),
		encodeRow([]int{3, 4, 9}), encodeRow([]int{0, 200, 70000, 5000000, greatest - 1, greatest}), encodeRow(row(30, 1000000, 50000)),
	} {
		b := []byte(as)
		for at := range b {
			for x := range 256 {
				changed := bytes.Clone(b)
				changed[at] = byte(x)
				checkTold(t, changed)
				checkTold(t, slices.Insert(bytes.Clone(b), at, byte(x)))
				for _, then := range []byte("\x00\x02\x80\xFF") {
					changed[(at+1+x%4)%len(b)] = then
					checkTold(t, changed)
				}
			}
			checkTold(t, slices.Delete(bytes.Clone(b), at, at+1))
			checkTold(t, append(bytes.Clone(b[at:]), b[:at]...))
		}
	}
}

// randomText is a text of chance, of all sizes.
func randomText(r *rand.Rand) string {
	var s strings.Builder
	for range r.Intn(1 << r.Intn(9)) {
		s.WriteString(points[r.Intn(len(points))])
	}
	return s.String()
}

// randomRow is a row of chance: 300 of the greatest numbers come out below 2^28.
func randomRow(r *rand.Rand) []int {
	l := []int{r.Intn(1 << r.Intn(19))}
	for range r.Intn(1 << r.Intn(9)) {
		l = append(l, l[len(l)-1]+1+r.Intn(1<<r.Intn(19)))
	}
	return l
}

// P15.3: many texts and rows are taken as they were put, and what is taken of their bytes with some changed is what was put, by a row of chance that is the same each time.
func TestManyTextsAndRows(t *testing.T) {
	r := rand.New(rand.NewSource(15))
	for range 10000 {
		s, l, tail := randomText(r), randomRow(r), tails[r.Intn(len(tails))]
		b, e := snap.Put(s)
		if string(b) != digits(len(s))+s || e != api.OK {
			t.Fatalf("Put(%s) = %s, %d", show(s), show(b), e)
		}
		if got, used, e := snap.Take(append(bytes.Clone(b), tail...)); got != s || used != len(b) || e != api.OK {
			t.Fatalf("Take(%s) = %s, %d, %d, not %s", show(b), show(got), used, e, show(s))
		}
		c, e := snap.PutRow(l)
		if string(c) != encodeRow(l) || e != api.OK {
			t.Fatalf("PutRow(%s) = %s, %d", show(l), show(c), e)
		}
		if got, used, e := snap.TakeRow(append(bytes.Clone(c), tail...)); !slices.Equal(got, l) || used != len(c) || e != api.OK {
			t.Fatalf("TakeRow(%s) = %s, %d, %d, not %s", show(c), show(got), used, e, show(l))
		}
		for _, as := range [][]byte{b, c} {
			for range 10 {
				changed := bytes.Clone(as)
				for range 1 + r.Intn(3) {
					changed[r.Intn(len(as))] = byte(r.Intn(256))
				}
				checkTold(t, changed[:r.Intn(len(as)+1)])
				checkTold(t, changed)
			}
		}
	}
}

// P15.1 to P15.3: rows of bytes by chance, the same each time, of which the first ones tell of few.
func TestManyRowsOfBytes(t *testing.T) {
	r := rand.New(rand.NewSource(16))
	for range 300000 {
		b := make([]byte, 1+r.Intn(40))
		for i := range b {
			b[i] = edges[r.Intn(len(edges))]
			if r.Intn(4) == 0 {
				b[i] = byte(r.Intn(256))
			}
		}
		b[0] = byte(r.Intn(10))
		checkTold(t, b)
	}
}

// P15.3: texts and rows that stand one behind the other are taken one by one.
func TestOneBehindTheOther(t *testing.T) {
	r := rand.New(rand.NewSource(17))
	var texts []string
	var rows [][]int
	var b []byte
	for i := range 300 {
		texts, rows = append(texts, randomText(r)), append(rows, randomRow(r))
		text, _ := snap.Put(texts[i])
		row, _ := snap.PutRow(rows[i])
		b = append(append(b, text...), row...)
	}
	for i := range texts {
		s, used, e := snap.Take(b)
		if s != texts[i] || e != api.OK {
			t.Fatalf("Take = %s, %d, want %s", show(s), e, show(texts[i]))
		}
		b = b[used:]
		l, used, e := snap.TakeRow(b)
		if !slices.Equal(l, rows[i]) || e != api.OK {
			t.Fatalf("TakeRow = %s, %d, want %s", show(l), e, show(rows[i]))
		}
		b = b[used:]
	}
	checkWrong(t, string(b), api.ErrShort)
	checkWrongRow(t, string(b), api.ErrShort)
}

// R7: what Put and PutRow tell is the caller's own: neither what was handed in, nor what was told before, sees what becomes of it, nor the other way about.
func TestWhatIsPutIsItsOwn(t *testing.T) {
	for n := 1; n < 300; n++ {
		s, l := letters(n), row(n, n, n)
		first, _ := snap.Put(s)
		second, _ := snap.Put(s)
		clear(first[:cap(first)])
		if s != letters(n) || string(second) != digits(n)+s {
			t.Errorf("what Put told of %s shares memory", show(s))
		}
		first, _ = snap.PutRow(l)
		second, _ = snap.PutRow(l)
		clear(first[:cap(first)])
		if !slices.Equal(l, row(n, n, n)) || string(second) != encodeRow(l) {
			t.Errorf("what PutRow told of %s shares memory", show(l))
		}
		clear(l)
		if string(second) != encodeRow(row(n, n, n)) {
			t.Errorf("what PutRow told of %d numbers came to be %x", n, second)
		}
	}
}

// R7: what Take and TakeRow tell is the caller's own: neither the bytes that were handed in, nor what was told before, see what becomes of it, nor the other way about.
func TestWhatIsTakenIsItsOwn(t *testing.T) {
	for n := 1; n < 300; n++ {
		want := row(n, n, n)
		b := encodeRow(want)
		given := []byte(b + behind)
		first, _, _ := snap.TakeRow(given)
		second, _, _ := snap.TakeRow(given)
		clear(first[:cap(first)])
		if string(given) != b+behind || !slices.Equal(second, want) {
			t.Errorf("what TakeRow told of %x shares memory", b)
		}
		clear(given)
		if !slices.Equal(second, want) {
			t.Errorf("what TakeRow told of %x came to be %s", b, show(second))
		}
		given = []byte(digits(n) + letters(n) + behind)
		s, _, _ := snap.Take(given)
		clear(given)
		if s != letters(n) {
			t.Errorf("what Take told of %d bytes came to be %s", n, show(s))
		}
	}
}
