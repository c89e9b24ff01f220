package words_test

import (
	"bytes"
	"fmt"
	"math"
	"math/rand"
	"runtime"
	"slices"
	"strings"
	"testing"
	"unicode/utf8"

	"epitome/api"
	"epitome/normal"
	"epitome/op"
	"epitome/words"
)

// The bounds, written out anew: most is the greatest number that an operation may take, mostBytes how many bytes a text, and how many spans an operation, may have at most.
const (
	most      = 1048576
	mostBytes = 65536
)

func keep(n int) api.Span { return api.Span{Kind: 1, N: n} }

func put(text string) api.Span { return api.Span{Kind: 2, Text: text} }

func drop(n int) api.Span { return api.Span{Kind: 3, N: n} }

func row(l ...api.Span) []api.Span { return l }

// empties are the empty spans, one of each kind.
var empties = row(keep(0), put(""), drop(0))

// points are code points of one, two, three and four bytes, the first and the last of each, those around the numbers that are none, U+FFFD, and one that stands on the one ahead.
var points = []string{
	"a", "\x00", "\x7F", "\xC2\x80", "\xC3\xA9", "\xCC\x81", "\xDF\xBF", "\xE0\xA0\x80", "\xE2\x82\xAC", "\xED\x9F\xBF", "\xEE\x80\x80",
	"\xEF\xBF\xBD", "\xEF\xBF\xBF", "\xF0\x90\x80\x80", "\xF0\x9F\x98\x80", "\xF4\x8F\xBF\xBF",
}

// noTexts are bytes that are no text.
var noTexts = []string{
	"\x80", "\xBF", "\xFF", "\xC3", "\xC0\x80", "\xC1\xBF", "\xC3a", "a\xFF", "\xFFa", "\xE2\x82", "\xE0\x9F\xBF", "\xED\xA0\x80", "\xED\xBF\xBF",
	"\xF0\x9F\x98", "\xF0\x8F\xBF\xBF", "\xF4\x90\x80\x80", "\xF8\x88\x80\x80\x80",
}

// tails are what may stand behind the bytes of an operation, among it other operations, and what is none.
var tails = []string{"\x00", "\x01", "\x01\x05", "\x05", "\x06x", "\x07", "\x80", "\x80\x00", "\x80\x80\x80\x80", "\xFF\xFF\xFF\xFF\xFF\x00", "abc", "\xA9"}

// wrong are spans that may not be, each with its error.
var wrong = []struct {
	s    api.Span
	code api.Errno
}{
	{api.Span{}, api.ErrKind},
	{api.Span{Kind: 4, N: 7}, api.ErrKind},
	{api.Span{Kind: 5, N: 7}, api.ErrKind},
	{api.Span{Kind: -1, N: 5, Text: "a"}, api.ErrKind},
	{api.Span{Kind: math.MinInt, N: math.MaxInt, Text: "\xFF"}, api.ErrKind},
	{keep(-1), api.ErrSize},
	{keep(most + 1), api.ErrSize},
	{keep(math.MaxInt), api.ErrSize},
	{drop(-2), api.ErrSize},
	{drop(most + 1), api.ErrSize},
	{drop(math.MinInt), api.ErrSize},
	{api.Span{Kind: 1, N: -3, Text: "a"}, api.ErrSize},
	{api.Span{Kind: 2, N: 1, Text: "abc"}, api.ErrSize},
	{api.Span{Kind: 2, N: -1, Text: "\xC3"}, api.ErrSize},
	{api.Span{Kind: 1, N: 1, Text: "a"}, api.ErrText},
	{api.Span{Kind: 3, N: 1, Text: "ab"}, api.ErrText},
	{api.Span{Kind: 1, Text: "\xFF"}, api.ErrText},
	{put("a\xFF"), api.ErrText},
	{put("\xED\xA0\x80"), api.ErrText},
}

// show is a row to be read, with no more than the beginnings of its texts.
func show(l []api.Span) string {
	short := slices.Clone(l[:min(len(l), 12)])
	for i := range short {
		short[i].Text = short[i].Text[:min(len(short[i].Text), 20)]
	}
	return fmt.Sprintf("%d: %+q", len(l), fmt.Sprint(short))
}

// showBytes are bytes to be read, no more than the first ones.
func showBytes[T string | []byte](b T) string {
	return fmt.Sprintf("%d bytes %x", len(b), string(b[:min(len(b), 40)]))
}

// digits is a number's bytes.
func digits(n int) string {
	if n < 128 {
		return string([]byte{byte(n)})
	}
	return string([]byte{byte(n%128 + 128)}) + digits(n/128)
}

// head is a span's head.
func head(kind, n int) string { return digits(4*n + kind) }

// encode is what Put must tell of an operation that may be put.
func encode(l []api.Span) string {
	var b strings.Builder
	b.WriteString(digits(len(l)))
	for _, s := range l {
		switch s.Kind {
		case 2:
			b.WriteString(head(2, len(s.Text)) + s.Text)
		default:
			b.WriteString(head(s.Kind, s.N))
		}
	}
	return b.String()
}

// number is what is taken of a number, by its chapter's words one by one.
func number(b []byte) (n, used int, e api.Errno) {
	end := 0
	for end < len(b) && end < 4 && b[end] >= 128 {
		end++
	}
	switch {
	case end == 4:
		return 0, 0, api.ErrForm
	case end == len(b):
		return 0, 0, api.ErrShort
	case end > 0 && b[end] == 0:
		return 0, 0, api.ErrForm
	}
	for i := end; i >= 0; i-- {
		n = n*128 + int(b[i])%128
	}
	return n, end + 1, api.OK
}

// decode is what Take must tell, by the chapter's words one by one.
func decode(b []byte) (l []api.Span, used int, e api.Errno) {
	many, used, e := number(b)
	if e != api.OK {
		return nil, 0, e
	}
	if many > mostBytes {
		return nil, 0, api.ErrForm
	}
	taken := 0
	for i := 0; i < many; i++ {
		h, size, e := number(b[used:])
		if e != api.OK {
			return nil, 0, e
		}
		used += size
		kind, n := h&3, h>>2
		if kind == 0 || n == 0 || kind == 2 && n > mostBytes || kind != 2 && n > most || i > 0 && l[i-1].Kind == kind {
			return nil, 0, api.ErrForm
		}
		s := api.Span{Kind: kind}
		if kind == 2 {
			if used+n > len(b) {
				return nil, 0, api.ErrShort
			}
			if !utf8.Valid(b[used : used+n]) {
				return nil, 0, api.ErrForm
			}
			s.Text = string(b[used : used+n])
			used += n
		} else {
			s.N = n
			taken += n
		}
		l = append(l, s)
	}
	if taken > most {
		return nil, 0, api.ErrForm
	}
	return l, used, api.OK
}

// checkPut holds Put of an operation against what is wanted of it, and asks twice: what was told once must not come to be another thing; what is handed in, and what stands behind it in its memory, stays as it was.
func checkPut(t *testing.T, l []api.Span, want string, code api.Errno) {
	t.Helper()
	const behind = 3
	given := make([]api.Span, len(l), len(l)+behind)
	copy(given, l)
	copy(given[len(l):cap(given)], row(keep(11), put("rest"), drop(13)))
	as := slices.Clone(given[:cap(given)])
	for range 2 {
		if got, e := words.Put(given); string(got) != want || e != code {
			t.Errorf("Put(%s) = %s, %d, want %s, %d", show(l), showBytes(got), e, showBytes(want), code)
		}
	}
	if !slices.Equal(given[:cap(given)], as) {
		t.Errorf("Put changed %s", show(l))
	}
}

// checkTake holds Take of bytes against what is wanted of them, as checkPut does Put.
func checkTake(t *testing.T, b string, want []api.Span, used int, code api.Errno) {
	t.Helper()
	const behind = "\x05\x06xyz\x07\x00rest"
	given := []byte(b + behind)[:len(b)]
	for range 2 {
		if l, n, e := words.Take(given); !slices.Equal(l, want) || n != used || e != code {
			t.Errorf("Take(%s) = %s, %d, %d, want %s, %d, %d", showBytes(b), show(l), n, e, show(want), used, code)
		}
	}
	if string(given[:len(b)+len(behind)]) != b+behind {
		t.Errorf("Take changed %s", showBytes(b))
	}
}

// checkWrong holds Take of bytes against the error that is wanted: each other result is zero.
func checkWrong(t *testing.T, b string, code api.Errno) {
	t.Helper()
	if _, _, want := decode([]byte(b)); want != code {
		t.Fatalf("what is wanted of Take(%s) is wrong: %d, not %d", showBytes(b), code, want)
	}
	checkTake(t, b, nil, 0, code)
}

// step is how far behind a beginning of n bytes the next one is that is tried. Not each one of long bytes is, for that would take all day: the first and the last ones, and some of those between.
func step(n, all int) int {
	const near, far = 8, 2000
	if all < far || n < near || n >= all-near {
		return 1
	}
	return min(all/8, all-near-n)
}

// checkBoth holds to P14.1 to P14.3 at an operation, of which b is Put's: it is put, taken, with anything behind it, and no beginning of it is enough.
func checkBoth(t *testing.T, l []api.Span, b string) {
	t.Helper()
	checkPut(t, l, b, api.OK)
	checkTake(t, b, l, len(b), api.OK)
	for _, tail := range tails {
		checkTake(t, b+tail, l, len(b), api.OK)
	}
	for n := 0; n < len(b); n += step(n, len(b)) {
		checkTake(t, b[:n], nil, 0, api.ErrShort)
	}
}

// checkTold holds Take of bytes against the chapter's words, and what is taken against what Put makes of it.
func checkTold(t *testing.T, b []byte) {
	want, wantUsed, wantCode := decode(b)
	l, used, code := words.Take(b)
	if !slices.Equal(l, want) || used != wantUsed || code != wantCode {
		t.Fatalf("Take(%s) = %s, %d, %d, want %s, %d, %d", showBytes(b), show(l), used, code, show(want), wantUsed, wantCode)
	}
	if code != api.OK {
		return
	}
	if again, e := words.Put(l); e != api.OK || !bytes.Equal(again, b[:used]) {
		t.Fatalf("Take(%s) = %s, %d, but Put of it is %s, %d", showBytes(b), show(l), used, showBytes(again), e)
	}
	if !normal.Is(l) || op.May(l) != api.OK {
		t.Fatalf("Take(%s) = %s, which is not in its shortest form, or may not be", showBytes(b), show(l))
	}
}

// P14.1 and P14.2: the chapter's example.
func TestExample(t *testing.T) {
	checkBoth(t, row(keep(2), put("x")), "\x02\x09\x06\x78")
}

// P14.1 and P14.2: no spans at all are one byte, and no bytes at all are too few.
func TestNoSpans(t *testing.T) {
	checkBoth(t, nil, "\x00")
	checkBoth(t, row(), "\x00")
	checkPut(t, nil, "\x00", api.OK)
	if b, e := words.Put(nil); string(b) != "\x00" || e != api.OK {
		t.Errorf("Put(nil) = %x, %d", b, e)
	}
	if l, used, e := words.Take(nil); len(l) != 0 || used != 0 || e != api.ErrShort {
		t.Errorf("Take(nil) = %s, %d, %d", show(l), used, e)
	}
}

// P14.1 to P14.3: ordinary operations, their bytes written out by hand.
func TestOrdinaryOperations(t *testing.T) {
	for _, x := range []struct {
		l []api.Span
		b string
	}{
		{row(keep(1)), "\x01\x05"},
		{row(drop(1)), "\x01\x07"},
		{row(put("a")), "\x01\x06a"},
		{row(put("\x00")), "\x01\x06\x00"},
		{row(put("\xC3\xA9"), drop(2)), "\x02\x0A\xC3\xA9\x0B"},
		{row(drop(2), put("\xC3\xA9")), "\x02\x0B\x0A\xC3\xA9"},
		{row(put("xxx"), drop(1), keep(1)), "\x03\x0Exxx\x07\x05"},
		{row(keep(3), drop(2), keep(1), put("\xF0\x9F\x98\x80!")), "\x04\x0D\x0B\x05\x16\xF0\x9F\x98\x80!"},
		{row(put("\x05\x07"), keep(300), put("\x01\x06"), drop(40)), "\x04\x0A\x05\x07\xB1\x09\x0A\x01\x06\xA3\x01"},
	} {
		checkBoth(t, x.l, x.b)
	}
}

// letters is a text of so many bytes.
func letters(n int) string { return strings.Repeat("abcdefghijklmnopqrstuvw", n/23+1)[:n] }

// heads are spans, alone, with their heads, written out by hand: the first and the last ones of which the head has one, two, three and four bytes.
var heads = []struct {
	s api.Span
	b string
}{
	{keep(1), "\x05"}, {keep(2), "\x09"}, {keep(30), "\x79"}, {keep(31), "\x7D"},
	{put(letters(1)), "\x06"}, {put(letters(2)), "\x0A"}, {put(letters(31)), "\x7E"},
	{drop(1), "\x07"}, {drop(2), "\x0B"}, {drop(31), "\x7F"},
	{keep(32), "\x81\x01"}, {keep(33), "\x85\x01"}, {keep(63), "\xFD\x01"}, {keep(64), "\x81\x02"}, {keep(4095), "\xFD\x7F"},
	{put(letters(32)), "\x82\x01"}, {put(letters(4095)), "\xFE\x7F"},
	{drop(32), "\x83\x01"}, {drop(4095), "\xFF\x7F"},
	{keep(4096), "\x81\x80\x01"}, {keep(65536), "\x81\x80\x10"}, {keep(65537), "\x85\x80\x10"}, {keep(524287), "\xFD\xFF\x7F"},
	{put(letters(4096)), "\x82\x80\x01"}, {put(letters(65535)), "\xFE\xFF\x0F"}, {put(letters(65536)), "\x82\x80\x10"},
	{drop(4096), "\x83\x80\x01"}, {drop(524287), "\xFF\xFF\x7F"},
	{keep(524288), "\x81\x80\x80\x01"}, {keep(most - 1), "\xFD\xFF\xFF\x01"}, {keep(most), "\x81\x80\x80\x02"},
	{drop(524288), "\x83\x80\x80\x01"}, {drop(most - 1), "\xFF\xFF\xFF\x01"}, {drop(most), "\x83\x80\x80\x02"},
}

// P14.1 to P14.3: heads of one, two, three and four bytes, at the bounds between them, alone, and with spans around.
func TestHeads(t *testing.T) {
	for _, x := range heads {
		b := x.b + x.s.Text
		checkBoth(t, row(x.s), "\x01"+b)
		if x.s.Kind != 2 {
			checkBoth(t, row(put("x"), x.s, put("y")), "\x03\x06x"+b+"\x06y")
		} else {
			checkBoth(t, row(keep(1), x.s, drop(1)), "\x03\x05"+b+"\x07")
		}
	}
}

// alternate are n spans in their shortest form that take as few as may be.
func alternate(n int) []api.Span {
	l := make([]api.Span, n)
	for i := range l {
		l[i] = drop(1)
		if i%2 == 1 {
			l[i] = put("x")
		}
	}
	return l
}

// P14.1 to P14.3: numbers of spans of one, two and three bytes, at the bounds between them, and the greatest one.
func TestNumbersOfSpans(t *testing.T) {
	for n, b := range map[int]string{
		1: "\x01", 2: "\x02", 3: "\x03", 126: "\x7E", 127: "\x7F", 128: "\x80\x01", 129: "\x81\x01", 300: "\xAC\x02",
		16383: "\xFF\x7F", 16384: "\x80\x80\x01", mostBytes - 1: "\xFF\xFF\x03", mostBytes: "\x80\x80\x04",
	} {
		spans := strings.Repeat("\x07\x06x", n/2)
		if n%2 == 1 {
			spans += "\x07"
		}
		checkBoth(t, alternate(n), b+spans)
	}
}

// P14.1 to P14.3: texts of code points of one, two, three and four bytes: the head has how many bytes there are, not how many code points.
func TestTexts(t *testing.T) {
	all := strings.Join(points, "")
	for _, p := range append(slices.Clone(points), all) {
		for _, text := range []string{p, p + "b", "b" + p, p + p, p + all} {
			checkBoth(t, row(put(text)), "\x01"+head(2, len(text))+text)
			checkBoth(t, row(keep(1), put(text), drop(1), put(p)), "\x04\x05"+head(2, len(text))+text+"\x07"+head(2, len(p))+p)
		}
	}
	for _, p := range points {
		text := strings.Repeat(p, 5000/len(p))
		checkBoth(t, row(put(text)), "\x01"+head(2, len(text))+text)
	}
}

// shortest calls do with every row of up to so many spans in its shortest form, the kinds in every order: the number of the span at place i, or how many bytes its text has, is what size tells.
func shortest(longest int, size func(i int) int, do func([]api.Span)) {
	rows := [][]api.Span{nil}
	for i := 0; len(rows) > 0; i++ {
		var longer [][]api.Span
		for _, l := range rows {
			do(l)
			for _, s := range row(keep(size(i)), put(letters(size(i))), drop(size(i))) {
				if i < longest && (i == 0 || l[i-1].Kind != s.Kind) {
					longer = append(longer, append(slices.Clone(l), s))
				}
			}
		}
		rows = longer
	}
}

// P14.1 to P14.3: rows of up to seven spans, the kinds in every order, short ones and long ones.
func TestEveryOrderOfKinds(t *testing.T) {
	for _, size := range []func(int) int{
		func(int) int { return 1 },
		func(i int) int { return i + 1 },
		func(i int) int { return 1 << i },
		func(i int) int { return 29 + i },
		func(i int) int { return 40 << (i % 3) },
	} {
		shortest(7, size, func(l []api.Span) { checkBoth(t, l, encode(l)) })
	}
}

// P14.1: op's errors: a span that may not be, first, in the middle, last, and alone; and more than 2^20 taken, while 2^20 is put.
func TestWhatMayNotBeIsNotPut(t *testing.T) {
	ahead := [][]api.Span{nil, row(keep(1)), row(put("a")), row(drop(1)), row(keep(2), put("x"), drop(1))}
	for _, x := range wrong {
		for _, a := range ahead {
			for _, b := range ahead {
				checkPut(t, slices.Concat(a, row(x.s), b), "", x.code)
			}
		}
		for _, y := range wrong {
			checkPut(t, row(keep(1), x.s, drop(1), y.s), "", x.code)
		}
	}
	for _, n := range []int{1, 2, most / 2, most - 1} {
		checkPut(t, row(keep(n), drop(most-n)), encode(row(keep(n), drop(most-n))), api.OK)
		checkPut(t, row(drop(n), put("x"), drop(most-n)), encode(row(drop(n), put("x"), drop(most-n))), api.OK)
		checkPut(t, row(keep(n), drop(most-n+1)), "", api.ErrBig)
		checkPut(t, row(drop(n), put("x"), drop(most-n+1)), "", api.ErrBig)
	}
	checkPut(t, row(keep(most), drop(most), keep(most)), "", api.ErrBig)
	checkPut(t, row(keep(most), put(letters(mostBytes))), encode(row(keep(most), put(letters(mostBytes)))), api.OK)
}

// P14.1: operations that may be, but not in their shortest form: an empty span of each kind, and two of one kind side by side, at each place.
func TestWhatIsNotShortestIsNotPut(t *testing.T) {
	for _, s := range append(slices.Clone(empties), empties...) {
		checkPut(t, row(s), "", api.ErrForm)
		checkPut(t, row(s, s), "", api.ErrForm)
	}
	for _, l := range [][]api.Span{
		row(keep(3)), row(put("ab")), row(drop(2)), row(keep(1), drop(2)), row(put("x"), drop(1)), row(drop(1), put("x")),
		row(keep(2), put("\xC3\xA9"), drop(1), keep(1), drop(4), put("y"), keep(7)),
	} {
		checkPut(t, l, encode(l), api.OK)
		for at := range len(l) + 1 {
			for _, s := range empties {
				checkPut(t, slices.Insert(slices.Clone(l), at, s), "", api.ErrForm)
			}
		}
		for at, s := range l {
			checkPut(t, slices.Insert(slices.Clone(l), at, s), "", api.ErrForm)
			checkPut(t, slices.Insert(slices.Clone(l), at, row(keep(5), put("z"), drop(5))[s.Kind-1]), "", api.ErrForm)
			checkPut(t, slices.Replace(slices.Clone(l), at, at+1, api.Span{Kind: s.Kind}), "", api.ErrForm)
		}
	}
}

// P14.1: a text of more than 65536 bytes, however many code points these are, at each place; as many are put, and so are many such texts.
func TestHowLongATextMayBe(t *testing.T) {
	for _, p := range []string{"x", "\xC3\xA9", "\xE2\x82\xAC", "\xF0\x9F\x98\x80"} {
		fits := strings.Repeat(p, mostBytes/len(p))
		fits += letters(mostBytes - len(fits))
		for _, long := range []string{fits + "x", strings.Repeat(p, mostBytes/len(p)+1), strings.Repeat(p, mostBytes)} {
			if len(long) > mostBytes {
				checkPut(t, row(put(long)), "", api.ErrSize)
				checkPut(t, row(keep(1), put("a"), drop(1), put(long)), "", api.ErrSize)
				checkPut(t, row(put(long), keep(1), put("a")), "", api.ErrSize)
			}
		}
		checkBoth(t, row(put(fits)), "\x01\x82\x80\x10"+fits)
		checkBoth(t, row(put(fits), keep(1), put(fits), drop(1), put(fits)), "\x05\x82\x80\x10"+fits+"\x05\x82\x80\x10"+fits+"\x07\x82\x80\x10"+fits)
	}
}

// P14.1: more than 65536 spans; that as many are put TestNumbersOfSpans holds.
func TestHowManySpansMayBe(t *testing.T) {
	for _, n := range []int{mostBytes + 1, mostBytes + 2, 2 * mostBytes, 1 << 18} {
		checkPut(t, alternate(n), "", api.ErrSize)
	}
	l := slices.Repeat(row(keep(1), drop(1)), mostBytes/2)
	checkPut(t, l, "\x80\x80\x04"+strings.Repeat("\x05\x07", mostBytes/2), api.OK)
	checkPut(t, append(l, keep(1)), "", api.ErrSize)
}

// P14.1 and R3: of several errors op.May's are told, then ErrForm, then ErrSize, wherever each stands.
func TestWhichErrorOfPutIsTold(t *testing.T) {
	long := put(letters(mostBytes + 1))
	for _, x := range wrong {
		for _, y := range []api.Span{keep(0), put(""), drop(0), long} {
			for _, l := range [][]api.Span{row(x.s, y), row(y, x.s), row(y, keep(1), x.s), row(keep(2), keep(3), y, x.s), row(long, y, x.s, keep(1))} {
				checkPut(t, l, "", x.code)
			}
		}
		checkPut(t, append(alternate(mostBytes+1), x.s), "", x.code)
		checkPut(t, append(slices.Repeat(row(keep(1)), mostBytes+1), x.s), "", x.code)
		checkPut(t, row(keep(most), drop(most), x.s), "", x.code)
	}
	for _, l := range [][]api.Span{
		row(keep(most), keep(1)), row(keep(most), keep(0), drop(1)), row(put(""), drop(most), put("x"), drop(1)),
		row(long, keep(most), drop(1)), row(keep(most), long, drop(1)), row(keep(0), keep(most), long, drop(1), long),
		append(alternate(mostBytes+1), keep(most)), append(slices.Repeat(row(keep(1)), mostBytes+1), keep(most)),
	} {
		checkPut(t, l, "", api.ErrBig)
	}
	for _, l := range [][]api.Span{
		row(long, keep(0)), row(keep(0), long), row(put(""), long), row(long, long), row(long, put("")), row(keep(1), keep(1), long), row(long, drop(1), drop(1)),
		append(alternate(mostBytes+1), drop(0)), append(row(put("")), alternate(mostBytes+1)...), append(alternate(mostBytes+1), drop(1), drop(1)),
		slices.Repeat(row(keep(1)), mostBytes+1), slices.Repeat(empties, mostBytes),
	} {
		checkPut(t, l, "", api.ErrForm)
	}
	for _, l := range [][]api.Span{append(alternate(mostBytes+2), keep(1), long), append(row(long), alternate(mostBytes+1)...)} {
		checkPut(t, l, "", api.ErrSize)
	}
}

// numbers are bytes that no number has, each with its error; one that is too short is wrong with nothing behind it alone.
var numbers = []struct {
	b    string
	code api.Errno
}{
	{"", api.ErrShort}, {"\x80", api.ErrShort}, {"\xAC", api.ErrShort}, {"\xFF", api.ErrShort}, {"\x85\x80", api.ErrShort}, {"\x87\xFF\x80", api.ErrShort},
	{"\x80\x80\x80\x80", api.ErrForm}, {"\x85\x80\x80\x80", api.ErrForm}, {"\xFF\xFF\xFF\xFF", api.ErrForm}, {"\x81\x80\x80\x80\x01", api.ErrForm}, {"\x80\x80\x80\x80\x00", api.ErrForm},
	{"\x80\x00", api.ErrForm}, {"\x85\x00", api.ErrForm}, {"\x86\x00", api.ErrForm}, {"\x87\x80\x00", api.ErrForm}, {"\x85\x80\x80\x00", api.ErrForm},
}

// P14.2: bytes that no number has, as the number of spans, and as the first head, one in the middle, and the last one.
func TestNumbersThatAreWrong(t *testing.T) {
	for _, x := range numbers {
		behind := append([]string{""}, tails...)
		if x.code == api.ErrShort {
			behind = behind[:1]
		}
		for _, tail := range behind {
			checkWrong(t, x.b+tail, x.code)
			checkWrong(t, "\x01"+x.b+tail, x.code)
			checkWrong(t, "\x02\x05"+x.b+tail, x.code)
			checkWrong(t, "\x03\x06x"+x.b+tail, x.code)
			checkWrong(t, "\x04\x0A\xC3\xA9\x07\x81\x01"+x.b+tail, x.code)
		}
	}
}

// P14.2: more than 65536 spans, with none, some, and all of them behind.
func TestTooManySpans(t *testing.T) {
	for _, n := range []int{mostBytes + 1, mostBytes + 2, 2 * mostBytes, most, 1<<27 + 1, 1<<28 - 1} {
		checkWrong(t, digits(n), api.ErrForm)
		checkWrong(t, digits(n)+"\x05", api.ErrForm)
		checkWrong(t, digits(n)+"\x06", api.ErrForm)
		if n <= most {
			checkWrong(t, digits(n)+strings.Repeat("\x05\x06x", n/2+1), api.ErrForm)
		}
	}
	checkWrong(t, digits(mostBytes), api.ErrShort)
	checkWrong(t, digits(mostBytes)+strings.Repeat("\x05\x06x", mostBytes/2-1)+"\x05", api.ErrShort)
}

// badHeads are heads that no span has, wherever they stand: a Kind of 0, a number of 0, and numbers above what a Kind may have, the greatest of all among them.
func badHeads() []string {
	l := []string{"\x00", "\x04", "\x08", "\x7C", "\x80\x01", "\x84\x80\x01", "\x01", "\x02", "\x03", head(0, most), head(0, most+1), head(0, 1<<26-1)}
	for _, n := range []int{most + 1, most + 2, 2 * most, 1<<26 - 1} {
		l = append(l, head(1, n), head(2, n), head(3, n))
	}
	return append(l, head(2, mostBytes+1), head(2, mostBytes+2), head(2, 2*mostBytes), head(2, most))
}

// P14.2: heads that no span has, the first one, in the middle and last, with nothing and with anything behind.
func TestHeadsThatAreWrong(t *testing.T) {
	for _, h := range badHeads() {
		for _, tail := range append([]string{"", "\x05\x06x\x07", letters(100)}, tails...) {
			for _, ahead := range []string{"\x01", "\x02", "\x7F", "\x02\x05", "\x03\x06x", "\x02\x07", "\x04\x05\x06x\x07", digits(mostBytes) + "\x07"} {
				checkWrong(t, ahead+h+tail, api.ErrForm)
			}
		}
	}
	// As many bytes as the head says change nothing.
	for _, n := range []int{mostBytes + 1, mostBytes + 2, 2 * mostBytes} {
		checkWrong(t, "\x01"+head(2, n)+letters(n), api.ErrForm)
		checkWrong(t, "\x02\x05"+head(2, n)+letters(n)+"\x05", api.ErrForm)
	}
}

// P14.2: the Kind of the span ahead, next to it; with another span between it is as it should be.
func TestTheKindOfTheSpanAhead(t *testing.T) {
	spans := []string{"\x05", "\x06x", "\x07"}
	more := []string{"\x81\x01", "\x0A\xC3\xA9", "\x83\x01"}
	for i, s := range spans {
		for j, m := range more {
			if i == j {
				checkWrong(t, "\x02"+s+s, api.ErrForm)
				checkWrong(t, "\x02"+s+m, api.ErrForm)
				checkWrong(t, "\x02"+m+s, api.ErrForm)
				checkWrong(t, "\x05"+more[(i+1)%3]+s+m, api.ErrForm)
				checkWrong(t, "\x05"+m+spans[(i+2)%3]+s+m, api.ErrForm)
				checkWrong(t, "\x02"+s+m[:1], []api.Errno{api.ErrShort, api.ErrForm, api.ErrShort}[i])
				continue
			}
			b := "\x05" + s + m + s + m + s
			if l, used, e := words.Take([]byte(b)); len(l) != 5 || used != len(b) || e != api.OK {
				t.Errorf("Take(%x) = %s, %d, %d", b, show(l), used, e)
			}
		}
	}
	long := digits(mostBytes) + strings.Repeat("\x05\x07", mostBytes/2-1) + "\x05"
	checkWrong(t, long+"\x05", api.ErrForm)
	checkTake(t, long+"\x07", slices.Repeat(row(keep(1), drop(1)), mostBytes/2), len(long)+1, api.OK)
}

// P14.2: fewer bytes than a text must have, none and all but one among them, whether or not they are a text.
func TestTextsThatAreShort(t *testing.T) {
	for _, n := range []int{1, 2, 31, 32, 4096, mostBytes - 1, mostBytes} {
		for _, ahead := range []string{"\x01", "\x02\x05", "\x03\x06x\x07", "\x7F\x07"} {
			for _, fewer := range []int{0, 1, n / 2, n - 1} {
				if fewer < n {
					checkWrong(t, ahead+head(2, n)+letters(fewer), api.ErrShort)
					checkWrong(t, ahead+head(2, n)+strings.Repeat("\xFF", fewer), api.ErrShort)
				}
			}
		}
	}
	checkWrong(t, "\x01\x0A\xC3", api.ErrShort)
	checkWrong(t, "\x01\x12\xFF\xFF\xFF", api.ErrShort)
}

// P14.2: bytes that are no text, at each place of one; a code point that a head cuts is none, though the rest of it stands behind.
func TestTextsThatAreNone(t *testing.T) {
	for _, x := range noTexts {
		for _, text := range []string{x, "a" + x, x + "\xEF\xBF\xBD", letters(40) + x, strings.Repeat("\xC3\xA9", 2100) + x + "b"} {
			for _, tail := range append([]string{"", "\x07\x80\x00"}, tails...) {
				checkWrong(t, "\x01"+head(2, len(text))+text+tail, api.ErrForm)
				checkWrong(t, "\x03\x05"+head(2, len(text))+text+tail, api.ErrForm)
				checkWrong(t, "\x05\x06x\x07"+head(2, len(text))+text+tail, api.ErrForm)
			}
		}
	}
	for _, p := range points {
		for cut := 1; cut < len(p); cut++ {
			checkWrong(t, "\x01"+head(2, cut)+p, api.ErrForm)
			checkWrong(t, "\x02"+head(2, cut+1)+"a"+p+"\x05", api.ErrForm)
			checkWrong(t, "\x03"+head(2, cut)+p[:cut]+"\x05"+head(2, len(p)-cut)+p[cut:], api.ErrForm)
		}
	}
}

// P14.2: an operation that takes more than 2^20 in all, though none of its spans does; 2^20 is taken, and how much is given does not matter.
func TestTooMuchTaken(t *testing.T) {
	for _, n := range []int{1, 2, most / 2, most - 1} {
		checkBoth(t, row(keep(n), drop(most-n)), "\x02"+head(1, n)+head(3, most-n))
		checkBoth(t, row(drop(n), put("x"), drop(most-n)), "\x03"+head(3, n)+"\x06x"+head(3, most-n))
		for _, tail := range append([]string{""}, tails...) {
			checkWrong(t, "\x02"+head(1, n)+head(3, most-n+1)+tail, api.ErrForm)
			checkWrong(t, "\x03"+head(3, n)+"\x06x"+head(3, most-n+1)+tail, api.ErrForm)
			checkWrong(t, "\x03"+head(1, n)+"\x06x"+head(1, most)+tail, api.ErrForm)
		}
	}
	checkWrong(t, digits(mostBytes)+strings.Repeat(head(1, most)+head(3, most), mostBytes/2), api.ErrForm)
	checkWrong(t, "\x02"+head(1, most)+"\x07", api.ErrForm)
	long := letters(mostBytes)
	l := slices.Repeat(row(put(long), keep(1)), 40)
	checkPut(t, l, encode(l), api.OK)
	checkTake(t, encode(l), l, len(encode(l)), api.OK)
}

// P14.2 and R3: of several things that are wrong the first one from the left is told; that too much is taken is told behind all spans.
func TestWhichErrorOfTakeIsTold(t *testing.T) {
	short := []string{"", "\x80", "\x85\x80", "\x0A", "\x0Aa", "\x0A\xFF", head(2, mostBytes) + "abc"}
	faults := append(badHeads(), "\x80\x00", "\x85\x80\x80\x80", "\x06\xFF", "\x0A\xC3a", "\x0E\xED\xA0\x80")
	for _, s := range short {
		for _, f := range faults {
			checkWrong(t, "\x02"+f+s, api.ErrForm)
			checkWrong(t, "\x03\x05"+f+s, api.ErrForm)
			checkWrong(t, "\x7F\x05\x06x\x07"+f+s, api.ErrForm)
		}
		checkWrong(t, "\x81\x80\x04"+s, api.ErrForm)
		checkWrong(t, "\x03"+head(1, most)+"\x07"+s, api.ErrShort)
		checkWrong(t, "\x04\x06x"+head(3, most)+head(1, most)+s, api.ErrShort)
	}
	checkWrong(t, "\x03\x06x\x0Aa", api.ErrForm)
	checkWrong(t, "\x03\x06\xFF\x0Aa", api.ErrForm)
	checkWrong(t, "\x03\x05\x0A\xFF", api.ErrShort)
	checkWrong(t, "\x02"+head(2, mostBytes+1), api.ErrForm)
	checkWrong(t, "\x02"+head(2, mostBytes), api.ErrShort)
}

// P14.2 and R1: a great number of spans, or of a text's bytes, with few bytes behind it ends at once, and takes no memory for what is not there.
func TestGreatNumbersWithFewBytes(t *testing.T) {
	const times, each = 2000, 2000
	for _, b := range []string{
		digits(mostBytes), digits(mostBytes) + "\x05", digits(mostBytes) + "\x05\x06x\x07", digits(1<<28 - 1), digits(1<<28-1) + "\x05\x06x\x07",
		"\x01" + head(2, mostBytes), digits(mostBytes) + head(2, mostBytes) + "abc", "\x01" + head(2, 1<<26-1) + "abc",
	} {
		given := []byte(b)
		var before, after runtime.MemStats
		runtime.ReadMemStats(&before)
		for range times {
			words.Take(given)
		}
		runtime.ReadMemStats(&after)
		if n := after.TotalAlloc - before.TotalAlloc; n > times*each {
			t.Errorf("%d times Take(%x) took %d bytes of memory", times, b, n)
		}
	}
}

// P14.2 and P14.3: all bytes up to three of them.
func TestAllShortBytes(t *testing.T) {
	checkTold(t, []byte{})
	for n := range 1 << 24 {
		b := []byte{byte(n), byte(n >> 8), byte(n >> 16)}
		for size := 3; size > 0 && n < 1<<(8*size); size-- {
			checkTold(t, b[:size])
		}
	}
}

// edges are bytes at which something may come to be another thing: heads of each kind, numbers that go on, bytes of texts, and of what is none.
const edges = "\x00\x01\x02\x03\x04\x05\x06\x07\x0A\x0B\x0Ex\x80\x82\x87\xA9\xC3\xE2\xFF"

// P14.2 and P14.3: one to four spans, and all rows of five bytes of those in edges behind.
func TestBoundsOfLongerBytes(t *testing.T) {
	for n := range len(edges) * len(edges) * len(edges) * len(edges) * len(edges) {
		var b [6]byte
		for i := 1; i < len(b); i++ {
			b[i] = edges[n%len(edges)]
			n /= len(edges)
		}
		for many := range byte(4) {
			b[0] = many + 1
			checkTold(t, b[:])
		}
	}
}

// P14.2 and P14.3: what Put gave, with one byte changed, left out or put in, and with two changed, at each place.
func TestChangedBytes(t *testing.T) {
	for _, l := range [][]api.Span{
		row(keep(2), put("x")),
		row(put("\xC3\xA9\xE2\x82\xAC"), drop(40), keep(1), put("\xF0\x9F\x98\x80a"), keep(5000)),
		row(drop(most-6000), put("xy"), keep(5999), put("\xEF\xBF\xBD"), drop(1)),
		slices.Repeat(row(keep(1), drop(2), put("\xCC\x81b")), 5),
	} {
		b := []byte(encode(l))
		for at := range b {
			for x := range 256 {
				changed := bytes.Clone(b)
				changed[at] = byte(x)
				checkTold(t, changed)
				checkTold(t, slices.Insert(bytes.Clone(b), at, byte(x)))
				for _, then := range []byte(edges) {
					changed[(at+1+x%4)%len(b)] = then
					checkTold(t, changed)
				}
			}
			checkTold(t, slices.Delete(bytes.Clone(b), at, at+1))
			checkTold(t, append(bytes.Clone(b[at:]), b[:at]...))
		}
	}
}

// random is a row of spans in its shortest form, of all sizes: eleven of the greatest take less than 2^20.
func random(r *rand.Rand) []api.Span {
	var l []api.Span
	ahead := 0
	for range r.Intn(12) {
		kind := (ahead+r.Intn(2))%3 + 1
		if ahead == 0 {
			kind = r.Intn(3) + 1
		}
		n := 1 + r.Intn(1<<r.Intn(17))
		if kind != 2 {
			l = append(l, api.Span{Kind: kind, N: n})
		} else {
			var text strings.Builder
			for range 1 + n%60 {
				text.WriteString(points[r.Intn(len(points))])
			}
			l = append(l, put(text.String()))
		}
		ahead = kind
	}
	return l
}

// P14.3: many operations are taken as they were put, and what is taken of their bytes with some changed is what was put, by a row of chance that is the same each time.
func TestManyOperations(t *testing.T) {
	r := rand.New(rand.NewSource(14))
	for range 20000 {
		l := random(r)
		b, e := words.Put(l)
		if string(b) != encode(l) || e != api.OK {
			t.Fatalf("Put(%s) = %s, %d", show(l), showBytes(b), e)
		}
		got, used, e := words.Take(append(bytes.Clone(b), tails[r.Intn(len(tails))]...))
		if !slices.Equal(got, l) || used != len(b) || e != api.OK {
			t.Fatalf("Take(%s) = %s, %d, %d, not %s", showBytes(b), show(got), used, e, show(l))
		}
		for range 20 {
			changed := bytes.Clone(b)
			for range 1 + r.Intn(3) {
				changed[r.Intn(len(b))] = byte(r.Intn(256))
			}
			checkTold(t, changed[:r.Intn(len(b)+1)])
			checkTold(t, changed)
		}
	}
}

// P14.2 and P14.3: rows of bytes by chance, the same each time, of which the first ones tell of few spans.
func TestManyRowsOfBytes(t *testing.T) {
	r := rand.New(rand.NewSource(15))
	for range 500000 {
		b := make([]byte, 1+r.Intn(40))
		for i := range b {
			b[i] = edges[r.Intn(len(edges))]
			if r.Intn(4) == 0 {
				b[i] = byte(r.Intn(256))
			}
		}
		b[0] = byte(r.Intn(6))
		checkTold(t, b)
	}
}

// P14.3: operations that stand one behind the other are taken one by one.
func TestOneBehindTheOther(t *testing.T) {
	var all [][]api.Span
	shortest(4, func(i int) int { return 30 + i }, func(l []api.Span) { all = append(all, l) })
	var b []byte
	for _, l := range all {
		one, _ := words.Put(l)
		b = append(b, one...)
	}
	for _, l := range all {
		got, used, e := words.Take(b)
		if !slices.Equal(got, l) || e != api.OK {
			t.Fatalf("Take = %s, %d, want %s", show(got), e, show(l))
		}
		b = b[used:]
	}
	checkTake(t, string(b), nil, 0, api.ErrShort)
}

// R7: what Put tells is the caller's own: neither what was handed in, nor what was told before, sees what becomes of it.
func TestWhatIsPutIsItsOwn(t *testing.T) {
	shortest(4, func(i int) int { return 30 + i }, func(l []api.Span) {
		want, as := encode(l), slices.Clone(l)
		first, _ := words.Put(l)
		second, _ := words.Put(l)
		clear(first[:cap(first)])
		if string(second) != want || !slices.Equal(l, as) {
			t.Errorf("what Put told of %s shares memory", show(as))
		}
		given := slices.Clone(l)
		third, _ := words.Put(given)
		clear(given)
		if string(third) != want {
			t.Errorf("what Put told of %s came to be %x", show(as), third)
		}
	})
}

// R7: what Take tells is the caller's own: neither the bytes that were handed in, nor what was told before, see what becomes of it, nor the other way about.
func TestWhatIsTakenIsItsOwn(t *testing.T) {
	shortest(4, func(i int) int { return 30 + i }, func(l []api.Span) {
		b := encode(l)
		given := []byte(b + "behind")
		first, _, _ := words.Take(given)
		second, _, _ := words.Take(given)
		first = first[:cap(first)]
		for i := range first {
			first[i] = put("over")
		}
		if string(given) != b+"behind" || !slices.Equal(second, l) {
			t.Errorf("what Take told of %x shares memory", b)
		}
		for i := range given {
			given[i] = 'o'
		}
		if !slices.Equal(second, l) {
			t.Errorf("what Take told of %x came to be %s", b, show(second))
		}
	})
}
