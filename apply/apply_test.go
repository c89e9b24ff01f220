package apply_test

import (
	"fmt"
	"math"
	"slices"
	"strings"
	"testing"
	"unsafe"

	"epitome/api"
	"epitome/apply"
	"epitome/normal"
	"epitome/op"
	"epitome/points"
)

// most is the greatest number that an operation may take: 2^20, written out anew.
const most = 1048576

func keep(n int) api.Span { return api.Span{Kind: 1, N: n} }

func put(text string) api.Span { return api.Span{Kind: 2, Text: text} }

func drop(n int) api.Span { return api.Span{Kind: 3, N: n} }

func row(l ...api.Span) []api.Span { return l }

func rows(l ...[]api.Span) [][]api.Span { return l }

// empties are the empty spans, one of each kind.
var empties = row(keep(0), put(""), drop(0))

// mixed are code points of one, two, three and four bytes, each one once; U+FFFD, U+0000 and one that stands on the one ahead are among them.
var mixed = []string{"a", "\xC3\xA9", "\xE2\x82\xAC", "\xF0\x9F\x98\x80", "\x00", "\xEF\xBF\xBD", "\xCC\x81", "\xF4\x8F\xBF\xBF", "\x7F", "\xED\x9F\xBF", "b", "\xC2\x80", "z"}

// noTexts are strings that are no UTF-8 of code points.
var noTexts = []string{"\xFF", "\x80", "\xC3", "a\xFFb", "\xC3\xA9\xC3", "\xC0\x80", "\xED\xA0\x80", "\xF4\x90\x80\x80", "\xF0\x9F\x98", "ab\xE2\x82"}

// wrong are spans that may not be, each with its error.
var wrong = []struct {
	s    api.Span
	code api.Errno
}{
	{api.Span{}, api.ErrKind},
	{api.Span{Kind: 4, N: 7}, api.ErrKind},
	{api.Span{Kind: -1, N: 5, Text: "a"}, api.ErrKind},
	{api.Span{Kind: math.MinInt, N: math.MaxInt, Text: "\xFF"}, api.ErrKind},
	{keep(-1), api.ErrSize},
	{keep(most + 1), api.ErrSize},
	{keep(math.MaxInt), api.ErrSize},
	{drop(-2), api.ErrSize},
	{drop(most + 1), api.ErrSize},
	{drop(math.MinInt), api.ErrSize},
	{api.Span{Kind: 1, N: -3, Text: "a"}, api.ErrSize},
	{api.Span{Kind: 2, N: 1, Text: "abc"}, api.ErrSize},
	{api.Span{Kind: 2, N: -1, Text: "\xC3"}, api.ErrSize},
	{api.Span{Kind: 1, N: 1, Text: "a"}, api.ErrText},
	{api.Span{Kind: 3, N: 6, Text: "ab"}, api.ErrText},
	{api.Span{Kind: 1, Text: "\xFF"}, api.ErrText},
	{put("a\xFF"), api.ErrText},
	{put("\xED\xA0\x80"), api.ErrText},
}

// cut is the beginning of what is shown, if that is long.
func cut(s string) string {
	const longest = 300
	if len(s) > longest {
		return s[:longest] + " ..."
	}
	return s
}

// show is a row to be read, with no more than the beginnings of its texts.
func show(l []api.Span) string {
	short := slices.Clone(l[:min(len(l), 20)])
	for i := range short {
		short[i].Text = short[i].Text[:min(len(short[i].Text), 20)]
	}
	return cut(fmt.Sprintf("%d: %+v", len(l), short))
}

func showAll(l [][]api.Span) string {
	var b strings.Builder
	for _, x := range l[:min(len(l), 6)] {
		b.WriteString("[" + show(x) + "] ")
	}
	return fmt.Sprint(len(l), ": ", b.String())
}

func quote(s string) string { return cut(fmt.Sprintf("%+q", s[:min(len(s), 200)])) }

// withRest is l in a memory that goes on behind it, and that memory as it is.
func withRest(l []api.Span) (given, as []api.Span) {
	const behind = 3
	given = make([]api.Span, len(l), len(l)+behind)
	copy(given, l)
	copy(given[len(l):cap(given)], row(keep(11), put("rest"), drop(13)))
	return given, slices.Clone(given[:cap(given)])
}

// allWithRest is l in such memories, that go on behind it too, and these as they are.
func allWithRest(l [][]api.Span) (given, as [][]api.Span) {
	for _, x := range append(slices.Clone(l), row(keep(17)), row(put("more"))) {
		g, a := withRest(x)
		given, as = append(given, g), append(as, a)
	}
	return given[:len(l)], as
}

// askTo holds what To tells against what is wanted of it. It asks twice: what was told once must not come to be another thing; what was handed in, and what stands behind it in its memory, stays as it was.
func askTo(t *testing.T, l []api.Span, s, want string, code api.Errno) {
	t.Helper()
	given, as := withRest(l)
	for range 2 {
		if got, e := apply.To(given, s); got != want || e != code {
			t.Errorf("To(%s, %s) = %s, %d, want %s, %d", show(l), quote(s), quote(got), e, quote(want), code)
		}
	}
	if !slices.Equal(given[:cap(given)], as) {
		t.Errorf("To changed %s", show(l))
	}
}

// askAll holds what All tells against what is wanted of it, in the same way.
func askAll(t *testing.T, s string, l [][]api.Span, want string, code api.Errno) {
	t.Helper()
	given, as := allWithRest(l)
	for range 2 {
		if got, e := apply.All(s, given...); got != want || e != code {
			t.Errorf("All(%s, %s) = %s, %d, want %s, %d", quote(s), showAll(l), quote(got), e, quote(want), code)
		}
	}
	for i, x := range given[:len(as)] {
		if !slices.Equal(x[:cap(x)], as[i]) {
			t.Errorf("All changed operation %d of %s", i, showAll(l))
		}
	}
}

// check holds an operation that may be applied against what it gives: by itself, by All, in its shortest form, and by how many code points these are.
func check(t *testing.T, l []api.Span, s, want string) {
	t.Helper()
	askTo(t, l, s, want, api.OK)
	askAll(t, s, rows(l), want, api.OK)
	askTo(t, normal.Of(l), s, want, api.OK)
	if got, e := apply.To(l, s); e != api.OK || points.Count(got) != op.Out(l) {
		t.Errorf("To(%s, %s) has %d code points, not %d", show(l), quote(s), points.Count(got), op.Out(l))
	}
}

// checkFails holds an operation that may not be applied to its error, by itself and by All; with the error nothing else is told.
func checkFails(t *testing.T, l []api.Span, s string, code api.Errno) {
	t.Helper()
	askTo(t, l, s, "", code)
	askAll(t, s, rows(l), "", code)
}

// byWord is what an operation gives of these code points, by the chapter's own words; false, if they are not as many as it takes.
func byWord(l []api.Span, s []string) (string, bool) {
	var given []string
	for _, x := range l {
		if x.Kind == 2 {
			given = append(given, x.Text)
			continue
		}
		for range x.N {
			if len(s) == 0 {
				return "", false
			}
			if x.Kind == 1 {
				given = append(given, s[0])
			}
			s = s[1:]
		}
	}
	return strings.Join(given, ""), len(s) == 0
}

// P7.1 and P7.2: the chapter's example.
func TestExample(t *testing.T) {
	check(t, row(keep(1), drop(1), put("x"), keep(1)), "abc", "axc")
}

// P7.1: no spans at all give nothing of no text, and fit no other one.
func TestNoSpans(t *testing.T) {
	check(t, nil, "", "")
	check(t, row(), "", "")
	for _, s := range append(slices.Clone(mixed), "ab", " ", "\xC3\xA9\xC3\xA9", strings.Repeat("a", most+1)) {
		checkFails(t, nil, s, api.ErrLen)
		checkFails(t, row(), s, api.ErrLen)
	}
}

// P7.1: what keeps all, what drops all, and what puts all, of code points of all lengths.
func TestAllOfIt(t *testing.T) {
	for n := range len(mixed) + 1 {
		s := strings.Join(mixed[:n], "")
		check(t, row(keep(n)), s, s)
		check(t, slices.Repeat(row(keep(1)), n), s, s)
		check(t, row(drop(n)), s, "")
		check(t, slices.Repeat(row(drop(1)), n), s, "")
		check(t, row(put(s)), "", s)
		check(t, row(drop(n), put("x")), s, "x")
		check(t, row(put("x"), drop(n)), s, "x")
		check(t, row(put(s), drop(n)), s, s)
		check(t, row(put(s), keep(n), put(s)), s, s+s+s)
	}
}

// P7.1: each single code point is kept, or dropped, whatever stands on either side of it.
func TestEachCodePoint(t *testing.T) {
	for _, a := range mixed {
		for _, b := range mixed {
			for _, c := range mixed {
				check(t, row(drop(1), keep(2)), a+b+c, b+c)
				check(t, row(keep(1), drop(1), keep(1)), a+b+c, a+c)
				check(t, row(keep(2), drop(1)), a+b+c, a+b)
				check(t, row(drop(1), keep(1), drop(1)), a+b+c, b)
				check(t, row(drop(1), put(c), keep(1), put(a), drop(1)), a+b+c, c+b+a)
			}
		}
	}
}

// P7.1: a text is put ahead of the first code point, between two, and behind the last one, next to something dropped or not.
func TestWhereIsPut(t *testing.T) {
	const s = "a\xC3\xA9\xE2\x82\xAC"
	check(t, row(put("xy"), keep(3)), s, "xya\xC3\xA9\xE2\x82\xAC")
	check(t, row(keep(1), put("xy"), keep(2)), s, "axy\xC3\xA9\xE2\x82\xAC")
	check(t, row(keep(2), put("xy"), keep(1)), s, "a\xC3\xA9xy\xE2\x82\xAC")
	check(t, row(keep(3), put("xy")), s, "a\xC3\xA9\xE2\x82\xACxy")
	check(t, row(put("x"), drop(1), keep(2)), s, "x\xC3\xA9\xE2\x82\xAC")
	check(t, row(drop(1), put("x"), keep(2)), s, "x\xC3\xA9\xE2\x82\xAC")
	check(t, row(keep(1), put("x"), drop(1), keep(1)), s, "ax\xE2\x82\xAC")
	check(t, row(keep(1), drop(1), put("x"), keep(1)), s, "ax\xE2\x82\xAC")
	check(t, row(keep(2), put("x"), drop(1)), s, "a\xC3\xA9x")
	check(t, row(keep(2), drop(1), put("x")), s, "a\xC3\xA9x")
	check(t, row(drop(1), put("x"), drop(1), keep(1)), s, "x\xE2\x82\xAC")
	check(t, row(put("p"), drop(1), put("q"), keep(1), put("r"), drop(1), put("s")), s, "pq\xC3\xA9rs")
	check(t, row(put("p"), drop(3), put("q")), s, "pq")
}

// P7.1: several texts put next to each other stand there in their order.
func TestSeveralTexts(t *testing.T) {
	check(t, row(put("b"), put("a")), "", "ba")
	check(t, row(put("c"), put("\xC3\xA9a"), put("c")), "", "c\xC3\xA9ac")
	check(t, row(put("e"), put("\xCC\x81"), put("\xEF\xBB\xBF")), "", "e\xCC\x81\xEF\xBB\xBF")
	check(t, row(keep(1), put("y"), put("x"), put("y"), keep(1)), "ab", "ayxyb")
	check(t, row(drop(1), put("y"), put("x"), drop(1)), "ab", "yx")
	check(t, row(put("y"), drop(1), put("x"), put("\xF0\x9F\x98\x80"), drop(1), put("w")), "ab", "yx\xF0\x9F\x98\x80w")
}

// P7.1: empty spans of each kind, alone and at each place of others, give nothing.
func TestEmptySpans(t *testing.T) {
	for _, s := range empties {
		check(t, row(s), "", "")
		check(t, row(s, s), "", "")
		checkFails(t, row(s), "a", api.ErrLen)
	}
	check(t, empties, "", "")
	check(t, slices.Repeat(empties, 10000), "", "")
	l, s, want := row(put("p"), keep(2), put("\xC3\xA9"), drop(1), drop(1), put("y"), put("z"), keep(1)), "\xE2\x82\xACbcd\xF0\x9F\x98\x80", "p\xE2\x82\xACb\xC3\xA9yz\xF0\x9F\x98\x80"
	check(t, l, s, want)
	for at := range len(l) + 1 {
		for _, x := range empties {
			check(t, slices.Insert(slices.Clone(l), at, x), s, want)
			check(t, slices.Insert(slices.Clone(l), at, x, x), s, want)
		}
		check(t, slices.Insert(slices.Clone(l), at, empties...), s, want)
	}
}

// P7.1 and P7.3: all rows of up to five spans out of three of each kind, an empty one among these, on texts of each length in and around what they take.
func TestAllShortRows(t *testing.T) {
	const longest = 5
	spans := row(keep(0), keep(1), keep(2), put(""), put("d"), put("\xC3\xA9k"), drop(0), drop(1), drop(2))
	for many, all := 0, 1; many <= longest; many, all = many+1, all*len(spans) {
		for order := range all {
			l, n := make([]api.Span, many), 0
			for i := range l {
				l[i] = spans[order%len(spans)]
				order /= len(spans)
				n += l[i].N
			}
			for m := max(n-1, 0); m <= n+1; m++ {
				s := strings.Join(mixed[:m], "")
				if want, fits := byWord(l, mixed[:m]); fits {
					check(t, l, s, want)
				} else {
					checkFails(t, l, s, api.ErrLen)
				}
			}
			if t.Failed() {
				return
			}
		}
	}
}

// P7.1: the greatest that may be, by one span, and by so many that to begin anew for each of them would take all day.
func TestLongTexts(t *testing.T) {
	long := strings.Repeat("\xC3\xA9\xF0\x9F\x98\x80", most/2)
	check(t, row(keep(most)), long, long)
	check(t, row(drop(most)), long, "")
	for _, x := range []struct {
		l    []api.Span
		want string
	}{
		{row(keep(1), keep(1)), long},
		{row(drop(1), drop(1)), ""},
		{row(drop(1), put("x"), keep(1), put("yz")), strings.Repeat("x\xF0\x9F\x98\x80yz", most/2)},
	} {
		if got, e := apply.To(slices.Repeat(x.l, most/2), long); got != x.want || e != api.OK {
			t.Errorf("To(%d times %s) = %s, %d", most/2, show(x.l), quote(got), e)
		}
	}
}

// P7.1: many spans next to each other, and far apart.
func TestManySpans(t *testing.T) {
	const many = 10000
	s := strings.Repeat("\xC3\xA9\xF0\x9F\x98\x80", many)
	check(t, slices.Repeat(row(keep(1), drop(1)), many), s, strings.Repeat("\xC3\xA9", many))
	check(t, slices.Repeat(row(drop(1), put("x"), keep(1), put("yz")), many), s, strings.Repeat("x\xF0\x9F\x98\x80yz", many))
	check(t, slices.Repeat(row(put("a"), put("\xC3\xA9")), many), "", strings.Repeat("a\xC3\xA9", many))
	check(t, append(slices.Repeat(empties, many), keep(2*many)), s, s)
	check(t, append(slices.Repeat(row(put("a")), many), drop(2*many-1), keep(1)), s, strings.Repeat("a", many)+"\xF0\x9F\x98\x80")
}

// P7.1: how much is given is not bounded; but of what is longer than 2^20 no operation takes all.
func TestMoreThanTheMost(t *testing.T) {
	long := strings.Repeat("\xC3\xA9", most)
	check(t, row(put("x"), keep(most)), long, "x"+long)
	check(t, row(put(long), keep(most), put(long)), long, long+long+long)
	checkFails(t, row(keep(most)), long+"x", api.ErrLen)
	checkFails(t, row(keep(most), drop(1)), long+"x", api.ErrBig)
	checkFails(t, slices.Repeat(row(keep(1)), most+1), long+"x", api.ErrBig)
	checkFails(t, row(keep(most), put("x")), long[2:], api.ErrLen)
}

// P7.1: op's error of a span that may not be, alone, and first, in the middle and last of others, on a text that has as many code points as are taken, and on none.
func TestOneWrongSpan(t *testing.T) {
	around := rows(nil, row(keep(1)), row(put("a")), row(drop(1)), empties, row(keep(2), put("x"), drop(1)))
	for _, x := range wrong {
		for _, a := range around {
			for _, b := range around {
				l := slices.Concat(a, row(x.s), b)
				const longest = 20
				n := min(max(op.In(l), 0), longest)
				checkFails(t, l, strings.Repeat("\xC3\xA9", n), x.code)
				checkFails(t, l, "", x.code)
			}
		}
	}
	checkFails(t, row(put("\xC3"), put("\xA9")), "", api.ErrText)
}

// P7.1: of two wrong spans the one further left is told, and a wrong one ahead of too much.
func TestTheFirstWrongSpanIsTold(t *testing.T) {
	for _, x := range wrong {
		for _, y := range wrong {
			checkFails(t, row(x.s, y.s), "", x.code)
			checkFails(t, row(keep(3), put("b"), x.s, drop(2), y.s, put("c")), "abcde", x.code)
		}
		checkFails(t, row(keep(most), keep(1), x.s), "", x.code)
	}
}

// P7.1: what takes more than 2^20 is too long, whatever the text.
func TestTooMuchIsTaken(t *testing.T) {
	for _, l := range rows(row(keep(most), keep(1)), row(drop(most), drop(1)), row(keep(1), put("x"), drop(most)), slices.Repeat(row(drop(most)), 4096)) {
		for _, s := range append(slices.Clone(noTexts), "", "a", "\xC3\xA9") {
			checkFails(t, l, s, api.ErrBig)
		}
	}
}

// P7.1: a string that is no text, whether or not something of it would be kept, and as many are taken as it has bytes, or runes.
func TestNoText(t *testing.T) {
	for _, s := range noTexts {
		for n := range len(s) + 2 {
			checkFails(t, row(keep(n)), s, api.ErrText)
			checkFails(t, row(drop(n)), s, api.ErrText)
			checkFails(t, row(put("a"), drop(n), put("b")), s, api.ErrText)
			checkFails(t, row(keep(n+1)), "\xC3\xA9"+s, api.ErrText)
			checkFails(t, row(keep(n+1)), s+"\xC3\xA9", api.ErrText)
		}
		checkFails(t, nil, s, api.ErrText)
		checkFails(t, row(put(s[:0])), s, api.ErrText)
	}
	long := strings.Repeat("a", most-1)
	checkFails(t, row(keep(most)), long+"\xFF", api.ErrText)
	checkFails(t, row(drop(most)), "\xFF"+long, api.ErrText)
}

// P7.1 and R3: op's error is told ahead of a string that is no text, and that ahead of lengths that do not meet.
func TestTheFirstErrorIsTold(t *testing.T) {
	for _, s := range noTexts {
		for _, x := range wrong {
			checkFails(t, row(x.s), s, x.code)
			checkFails(t, row(keep(1), put("a"), x.s), s, x.code)
			checkFails(t, row(x.s, keep(most)), s, x.code)
		}
		checkFails(t, row(keep(most)), s, api.ErrText)
		checkFails(t, row(drop(100)), s, api.ErrText)
	}
	for _, x := range wrong {
		checkFails(t, row(keep(5), x.s), "a", x.code)
		checkFails(t, row(x.s), strings.Repeat("a", 100), x.code)
	}
}

// P7.1: one code point too few is taken, and one too many; bytes do not count.
func TestLengthsThatDoNotMeet(t *testing.T) {
	for n := range len(mixed) {
		s := strings.Join(mixed[:n], "")
		for _, l := range rows(row(keep(n+1)), row(drop(n+1)), row(keep(n), drop(1)), row(drop(n), keep(1)), row(put("x"), keep(n), put("y"), drop(1)), row(keep(2*n+1)), row(keep(most))) {
			checkFails(t, l, s, api.ErrLen)
		}
		if n == 0 {
			continue
		}
		for _, l := range rows(nil, row(keep(n-1)), row(drop(n-1)), row(keep(n-1), put("x")), row(put("xy"), drop(n-1), put("z")), row(keep(n-1), put(""), drop(0))) {
			checkFails(t, l, s, api.ErrLen)
		}
		if len(s) != n {
			checkFails(t, row(keep(len(s))), s, api.ErrLen)
			checkFails(t, row(drop(len(s))), s, api.ErrLen)
		}
	}
}

// P7.2: of no operations: a text as it is, however long; and ErrText of a string that is none.
func TestAllOfNone(t *testing.T) {
	for _, s := range append(slices.Clone(mixed), "", "abc", "a\xC3\xA9\xE2\x82\xAC\xF0\x9F\x98\x80", strings.Repeat("\xC3\xA9", most), strings.Repeat("a", most+1)) {
		askAll(t, s, nil, s, api.OK)
		askAll(t, s, rows(), s, api.OK)
	}
	for _, s := range noTexts {
		askAll(t, s, nil, "", api.ErrText)
		askAll(t, "\xC3\xA9"+s, rows(), "", api.ErrText)
	}
}

// P7.2: two and three operations, each made for what the one ahead gives; the other way about they would give something else, or nothing.
func TestAllOneBehindTheOther(t *testing.T) {
	askAll(t, "abc", rows(row(keep(1), drop(1), keep(1)), row(keep(1), put("x"), keep(1))), "axc", api.OK)
	askAll(t, "abc", rows(row(drop(1), keep(2)), row(keep(1), drop(1))), "b", api.OK)
	askAll(t, "abc", rows(row(put("x"), keep(3)), row(put("y"), keep(4))), "yxabc", api.OK)
	askAll(t, "abc", rows(row(keep(3), put("\xC3\xA9")), row(drop(3), keep(1)), row(keep(1), put("z"))), "\xC3\xA9z", api.OK)
	askAll(t, "", rows(nil, row(put("ab")), row(keep(2)), row(drop(2)), nil, row(put("c"))), "c", api.OK)
	askAll(t, "", rows(nil, nil, row()), "", api.OK)
	askAll(t, "abc", rows(row(keep(1), put("x"), keep(2)), row(keep(1), drop(1), keep(2))), "abc", api.OK)
	askAll(t, "abc", rows(row(keep(3)), row(keep(3)), row(keep(3))), "abc", api.OK)
}

// growing is many operations, each made for what the one ahead gives, the first one for q, and what they give in the end: most put something at either end of a text, of which they drop the first code point, and one of three drops two.
func growing(many int) (l [][]api.Span, want string) {
	s := []string{"q"}
	for i := range many {
		if i%3 == 2 {
			l = append(l, row(drop(2), put("\xE2\x82\xAC"), keep(len(s)-2)))
			s = slices.Concat([]string{"\xE2\x82\xAC"}, s[2:])
			continue
		}
		last := mixed[i%len(mixed)]
		l = append(l, row(drop(1), put("\xC3\xA9"), keep(len(s)-1), put("a"+last)))
		s = slices.Concat([]string{"\xC3\xA9"}, s[1:], []string{"a", last})
	}
	return l, strings.Join(s, "")
}

// P7.2: many operations, and that of them two, one and none may be left for later.
func TestAllOfMany(t *testing.T) {
	for many := range 40 {
		l, want := growing(many)
		askAll(t, "q", l, want, api.OK)
		for at := range many + 1 {
			half, e := apply.All("q", l[:at]...)
			if e != api.OK {
				t.Errorf("All(q, %s) = %d", showAll(l[:at]), e)
			}
			askAll(t, half, l[at:], want, api.OK)
		}
	}
	l, want := growing(2000)
	askAll(t, "q", l, want, api.OK)
}

// P7.2: all pairs of short rows, on each text of up to three code points: To of the one, and To of the other, or the first error of these.
func TestAllOfTwoShortRows(t *testing.T) {
	spans := row(keep(1), keep(2), put("d"), drop(1), drop(2), api.Span{}, put("\xFF"), drop(-1))
	all := rows(nil)
	for _, x := range spans {
		all = append(all, row(x))
		for _, y := range spans {
			all = append(all, row(x, y))
		}
	}
	for n := range 4 {
		for _, a := range all {
			s := strings.Join(mixed[:n], "")
			half, first := apply.To(a, s)
			for _, b := range all {
				want, code := "", first
				if first == api.OK {
					want, code = apply.To(b, half)
				}
				askAll(t, s, rows(a, b), want, code)
			}
		}
	}
}

// P7.2: of a row of operations the first one, one in the middle and the last one may not be, or does not fit; nothing of what those ahead gave is told.
func TestAllTellsTheErrorOfOne(t *testing.T) {
	fits := rows(row(keep(1), put("x"), keep(1)), row(keep(3), put("y")), row(drop(1), keep(3)), row(keep(2), drop(1)))
	askAll(t, "ab", fits, "xb", api.OK)
	for at := range fits {
		for _, x := range wrong {
			l := slices.Clone(fits)
			l[at] = row(x.s)
			askAll(t, "ab", l, "", x.code)
			askAll(t, "ab", slices.Insert(slices.Clone(fits), at, row(put("z"), x.s)), "", x.code)
		}
		for _, x := range rows(append(slices.Clone(fits[at]), drop(1)), append(slices.Clone(fits[at]), keep(1)), fits[at][1:len(fits[at]):len(fits[at])], nil, row(keep(most))) {
			if op.In(x) == op.In(fits[at]) {
				continue
			}
			l := slices.Clone(fits)
			l[at] = x
			askAll(t, "ab", l, "", api.ErrLen)
		}
		l := slices.Clone(fits)
		l[at] = row(keep(most), drop(1))
		askAll(t, "ab", l, "", api.ErrBig)
	}
	for _, x := range wrong {
		askAll(t, "ab", append(slices.Clone(fits), row(x.s)), "", x.code)
	}
	askAll(t, "ab", append(slices.Clone(fits), row(keep(3))), "", api.ErrLen)
	askAll(t, "ab", append(slices.Clone(fits), row(keep(1))), "", api.ErrLen)
}

// P7.2 and R3: of two operations with an error the first one's is told, though it is named later in the chapter.
func TestAllTellsTheFirstError(t *testing.T) {
	big := row(keep(most), keep(1))
	for _, x := range wrong {
		askAll(t, "abc", rows(row(keep(1)), row(x.s)), "", api.ErrLen)
		askAll(t, "abc", rows(row(keep(3)), row(keep(4)), row(x.s)), "", api.ErrLen)
		askAll(t, "abc", rows(row(x.s), row(keep(1))), "", x.code)
		askAll(t, "abc", rows(big, row(x.s)), "", api.ErrBig)
		askAll(t, "abc", rows(row(x.s), big), "", x.code)
		for _, y := range wrong {
			askAll(t, "abc", rows(row(x.s), row(y.s)), "", x.code)
			askAll(t, "abc", rows(row(keep(3)), row(x.s), row(y.s)), "", x.code)
		}
	}
	for _, s := range noTexts {
		for _, x := range wrong {
			askAll(t, s, rows(row(keep(1)), row(x.s)), "", api.ErrText)
			askAll(t, s, rows(nil, row(x.s)), "", api.ErrText)
			askAll(t, s, rows(row(x.s), row(keep(1))), "", x.code)
		}
		askAll(t, s, rows(row(keep(1)), big), "", api.ErrText)
		askAll(t, s, rows(big, row(keep(1))), "", api.ErrBig)
		askAll(t, s, rows(row(drop(len(s))), row(put("a"))), "", api.ErrText)
	}
}

// P7.2: an operation is held against what the one ahead gives, and not against the first text; what that gives may be longer than any operation takes, and then is the last of it.
func TestAllHoldsLengthsOneByOne(t *testing.T) {
	askAll(t, "abc", rows(row(drop(3)), row(keep(3))), "", api.ErrLen)
	askAll(t, "abc", rows(row(drop(3)), nil), "", api.OK)
	askAll(t, "abc", rows(row(keep(3), put("d")), row(keep(3))), "", api.ErrLen)
	askAll(t, "a", rows(row(drop(1), put("\xC3\xA9")), row(keep(2))), "", api.ErrLen)
	askAll(t, "a", rows(row(drop(1), put("\xC3\xA9")), row(keep(1))), "\xC3\xA9", api.OK)
	long := strings.Repeat("a", most)
	askAll(t, long, rows(row(keep(most)), row(keep(most), put("x"))), long+"x", api.OK)
	askAll(t, long, rows(row(keep(most), put("x")), row(keep(most))), "", api.ErrLen)
	askAll(t, long, rows(row(keep(most), put("x")), row(keep(most), drop(1))), "", api.ErrBig)
}

// inBytes is s, standing in bytes that may come to be others.
func inBytes(s string) (string, []byte) {
	b := []byte(s)
	return unsafe.String(unsafe.SliceData(b), len(b)), b
}

// R7: what is told is the caller's own: it does not see what becomes of the memory of the text, and of the texts that are put.
func TestWhatIsToldIsTheCallersOwn(t *testing.T) {
	for _, x := range []struct {
		s    string
		l    func(text string) [][]api.Span
		want string
	}{
		{"abc", func(string) [][]api.Span { return nil }, "abc"},
		{"abc", func(string) [][]api.Span { return rows(row(keep(3))) }, "abc"},
		{"abc", func(string) [][]api.Span { return rows(row(drop(1), keep(2))) }, "bc"},
		{"abc", func(string) [][]api.Span { return rows(row(keep(3)), row(keep(3))) }, "abc"},
		{"", func(text string) [][]api.Span { return rows(row(put(text))) }, "pq"},
		{"abc", func(text string) [][]api.Span { return rows(row(drop(3), put(text))) }, "pq"},
		{"abc", func(text string) [][]api.Span { return rows(row(keep(1), put(text), keep(2))) }, "apqbc"},
		{"abc", func(text string) [][]api.Span { return rows(row(drop(3)), nil, row(put(text))) }, "pq"},
	} {
		s, memory := inBytes(x.s)
		text, more := inBytes("pq")
		l := x.l(text)
		all, e := apply.All(s, l...)
		one := x.want
		if len(l) == 1 {
			one, _ = apply.To(l[0], s)
		}
		copy(memory, "...")
		copy(more, "..")
		if all != x.want || one != x.want || e != api.OK {
			t.Errorf("what was told is %q and %q by now, want %q, %d", all, one, x.want, e)
		}
	}
}
