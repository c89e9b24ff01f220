package place_test

import (
	"fmt"
	"math"
	"slices"
	"strings"
	"testing"
	"unicode/utf8"

	"epitome/api"
	"epitome/normal"
	"epitome/op"
	"epitome/place"
)

// most is the greatest number that an operation may take: 2^20, written out anew.
const most = 1048576

func keep(n int) api.Span { return api.Span{Kind: 1, N: n} }

func put(text string) api.Span { return api.Span{Kind: 2, Text: text} }

func drop(n int) api.Span { return api.Span{Kind: 3, N: n} }

func row(l ...api.Span) []api.Span { return l }

func ints(l ...int) []int { return l }

// empties are the empty spans, one of each kind.
var empties = row(keep(0), put(""), drop(0))

// points are code points of one, two, three and four bytes; U+FFFD, U+0000 and one that stands on the one ahead are among them.
var points = []string{"a", "\xC3\xA9", "\xE2\x82\xAC", "\xF0\x9F\x98\x80", "\x00", "\xEF\xBF\xBD", "\xCC\x81", "\xF4\x8F\xBF\xBF", "\x7F", "\xED\x9F\xBF"}

// outside are numbers of gaps that no operation has.
var outside = ints(-1, -2, -most, -1<<32, -1<<32+1, math.MinInt, math.MinInt+1, 1<<32, 1<<32+1, math.MaxInt-1, math.MaxInt)

// wrong are spans that may not be, each with its error.
var wrong = []struct {
	s    api.Span
	code api.Errno
}{
	{api.Span{}, api.ErrKind},
	{api.Span{Kind: 4, N: 7}, api.ErrKind},
	{api.Span{Kind: -1, N: 5, Text: "a"}, api.ErrKind},
	{api.Span{Kind: math.MinInt, N: math.MaxInt, Text: "\xFF"}, api.ErrKind},
	{keep(-1), api.ErrSize},
	{keep(most + 1), api.ErrSize},
	{keep(math.MaxInt), api.ErrSize},
	{drop(-2), api.ErrSize},
	{drop(most + 1), api.ErrSize},
	{drop(math.MinInt), api.ErrSize},
	{api.Span{Kind: 1, N: -3, Text: "a"}, api.ErrSize},
	{api.Span{Kind: 2, N: 1, Text: "abc"}, api.ErrSize},
	{api.Span{Kind: 2, N: -1, Text: "\xC3"}, api.ErrSize},
	{api.Span{Kind: 1, N: 4, Text: "a"}, api.ErrText},
	{api.Span{Kind: 3, N: 6, Text: "ab"}, api.ErrText},
	{api.Span{Kind: 1, Text: "\xFF"}, api.ErrText},
	{put("a\xFF"), api.ErrText},
	{put("\xED\xA0\x80"), api.ErrText},
}

// show is a row to be read, with no more than the beginnings of its texts.
func show(l []api.Span) string {
	short := slices.Clone(l[:min(len(l), 12)])
	for i := range short {
		short[i].Text = short[i].Text[:min(len(short[i].Text), 20)]
	}
	return fmt.Sprintf("%d: %+q", len(l), fmt.Sprint(short))
}

// withRest is l in a memory that goes on behind it, and that memory as it is.
func withRest(l []api.Span) (given, as []api.Span) {
	const behind = 3
	given = make([]api.Span, len(l), len(l)+behind)
	copy(given, l)
	copy(given[len(l):cap(given)], row(keep(11), put("rest"), drop(13)))
	return given, slices.Clone(given[:cap(given)])
}

// ask holds what a call tells of a gap against what is wanted of it. It asks twice: what was told once must not come to be another thing; what was handed in, and what stands behind it in its memory, stays as it was.
func ask(t *testing.T, name string, call func([]api.Span, int) (int, api.Errno), l []api.Span, gap, want int, code api.Errno) {
	t.Helper()
	given, as := withRest(l)
	for range 2 {
		if got, e := call(given, gap); got != want || e != code {
			t.Errorf("%s(%s, %d) = %d, %d, want %d, %d", name, show(l), gap, got, e, want, code)
		}
	}
	if !slices.Equal(given[:cap(given)], as) {
		t.Errorf("%s changed %s", name, show(l))
	}
}

func askWhere(t *testing.T, l []api.Span, gap, want int, code api.Errno) {
	t.Helper()
	ask(t, "Where", place.Where, l, gap, want, code)
}

func askLeast(t *testing.T, l []api.Span, gap, want int, code api.Errno) {
	t.Helper()
	ask(t, "Least", place.Least, l, gap, want, code)
}

// checkFails holds an operation that may not be to its error, whatever the gap is; with the error nothing else is told.
func checkFails(t *testing.T, l []api.Span, code api.Errno) {
	t.Helper()
	for _, gap := range append(ints(0, 1, 2, 3, 8, most, most+1), outside...) {
		askWhere(t, l, gap, 0, code)
		askLeast(t, l, gap, 0, code)
	}
}

// checkOutside holds an operation that may be to ErrRange of each gap that it has not.
func checkOutside(t *testing.T, l []api.Span, in, out int) {
	t.Helper()
	for _, gap := range outside {
		askWhere(t, l, gap, 0, api.ErrRange)
		askLeast(t, l, gap, 0, api.ErrRange)
	}
	for _, beyond := range ints(1, 2, 3, most) {
		askWhere(t, l, in+beyond, 0, api.ErrRange)
		askLeast(t, l, out+beyond, 0, api.ErrRange)
	}
}

// byWord is where each gap of an operation comes to be, and the least gap of each of those that it gives, by the chapter's own words.
func byWord(l []api.Span) (where, least []int) {
	puts, stays := ints(0), ints()
	for _, s := range l {
		switch s.Kind {
		case 1, 3:
			for range s.N {
				puts, stays = append(puts, 0), append(stays, (3-s.Kind)/2)
			}
		case 2:
			puts[len(puts)-1] += utf8.RuneCountInString(s.Text)
		}
	}
	for gap := range puts {
		n := 0
		for _, many := range puts[:gap+1] {
			n += many
		}
		for _, one := range stays[:gap] {
			n += one
		}
		where = append(where, n)
	}
	for gap := range where[len(where)-1] + 1 {
		g := 0
		for where[g] < gap {
			g++
		}
		least = append(least, g)
	}
	return where, least
}

// checkWanted holds an operation, at each of its gaps and at those that it has not, against what is wanted; and its shortest form.
func checkWanted(t *testing.T, l []api.Span, where, least []int) {
	t.Helper()
	for _, x := range [][]api.Span{l, normal.Of(l)} {
		if op.May(x) != api.OK || op.In(x) != len(where)-1 || op.Out(x) != len(least)-1 {
			t.Fatalf("what is wanted of %s is wrong", show(x))
		}
		for gap, want := range where {
			askWhere(t, x, gap, want, api.OK)
		}
		for gap, want := range least {
			askLeast(t, x, gap, want, api.OK)
		}
		checkOutside(t, x, len(where)-1, len(least)-1)
	}
}

// check holds an operation against the chapter's own words.
func check(t *testing.T, l []api.Span) {
	t.Helper()
	where, least := byWord(l)
	checkWanted(t, l, where, least)
}

// checkBoth holds an operation against what is wanted by hand, and that against the chapter's own words.
func checkBoth(t *testing.T, l []api.Span, where, least []int) {
	t.Helper()
	if w, f := byWord(l); !slices.Equal(w, where) || !slices.Equal(f, least) {
		t.Errorf("of %s it is %v and %v by the words, and %v and %v by hand", show(l), w, f, where, least)
	}
	checkWanted(t, l, where, least)
}

// upTo are the numbers from 0 to n.
func upTo(n int) []int {
	l := make([]int, n+1)
	for i := range l {
		l[i] = i
	}
	return l
}

// P8.1 and P8.2: the chapter's example, at each gap and each place of it.
func TestExample(t *testing.T) {
	l := row(keep(1), put("x"), drop(1))
	checkBoth(t, l, ints(0, 2, 2), ints(0, 1, 1))
	askWhere(t, l, 1, 2, api.OK)
	askLeast(t, l, 2, 1, api.OK)
}

// P8.1 and P8.2: an operation of no spans has gap 0, and no gap 1.
func TestNoSpans(t *testing.T) {
	for _, l := range [][]api.Span{nil, row()} {
		checkBoth(t, l, ints(0), ints(0))
		askWhere(t, l, 1, 0, api.ErrRange)
		askLeast(t, l, 1, 0, api.ErrRange)
	}
}

// P8.1 and P8.2: what is kept stays where it is, and all that is dropped comes to be one gap.
func TestAllIsKeptOrDropped(t *testing.T) {
	for _, n := range ints(0, 1, 2, 3, 7, 64, 300) {
		checkBoth(t, row(keep(n)), upTo(n), upTo(n))
		checkBoth(t, slices.Repeat(row(keep(1)), n), upTo(n), upTo(n))
		checkBoth(t, row(drop(n)), make([]int, n+1), ints(0))
		checkBoth(t, slices.Repeat(row(drop(1)), n), make([]int, n+1), ints(0))
		checkBoth(t, row(put(strings.Repeat("x", n))), ints(n), make([]int, n+1))
	}
}

// P8.1 and P8.2: what is put ahead of the first code point, between two, and behind the last one, next to what is kept.
func TestPutNextToWhatIsKept(t *testing.T) {
	checkBoth(t, row(put("xy"), keep(2)), ints(2, 3, 4), ints(0, 0, 0, 1, 2))
	checkBoth(t, row(keep(1), put("xy"), keep(1)), ints(0, 3, 4), ints(0, 1, 1, 1, 2))
	checkBoth(t, row(keep(2), put("xy")), ints(0, 1, 4), ints(0, 1, 2, 2, 2))
	checkBoth(t, row(put("x"), keep(1), put("y"), keep(1), put("z")), ints(1, 3, 5), ints(0, 0, 1, 1, 2, 2))
}

// P8.1 and P8.2: the same, next to what is dropped, on either side: what is put ahead of what is dropped, and the other way about.
func TestPutNextToWhatIsDropped(t *testing.T) {
	checkBoth(t, row(put("x"), drop(1)), ints(1, 1), ints(0, 0))
	checkBoth(t, row(drop(1), put("x")), ints(0, 1), ints(0, 1))
	checkBoth(t, row(put("x"), drop(1), put("y")), ints(1, 2), ints(0, 0, 1))
	checkBoth(t, row(put("xy"), drop(2), keep(1)), ints(2, 2, 2, 3), ints(0, 0, 0, 3))
	checkBoth(t, row(drop(2), put("xy"), keep(1)), ints(0, 0, 2, 3), ints(0, 2, 2, 3))
	checkBoth(t, row(drop(1), put("xy"), drop(1)), ints(0, 2, 2), ints(0, 1, 1))
	checkBoth(t, row(keep(1), put("x"), drop(1), keep(1)), ints(0, 2, 2, 3), ints(0, 1, 1, 3))
	checkBoth(t, row(keep(1), drop(1), put("x"), keep(1)), ints(0, 1, 2, 3), ints(0, 1, 2, 3))
	checkBoth(t, row(keep(1), drop(2), put("x")), ints(0, 1, 1, 2), ints(0, 1, 3))
	checkBoth(t, row(keep(1), put("x"), drop(2)), ints(0, 2, 2, 2), ints(0, 1, 1))
	checkBoth(t, row(drop(1), keep(1), drop(1)), ints(0, 0, 1, 1), ints(0, 2))
	checkBoth(t, row(keep(1), drop(1), keep(1)), ints(0, 1, 1, 2), ints(0, 1, 3))
}

// P8.1 and P8.2: a text at each place of every short row of code points that are kept and dropped.
func TestWhereIsPut(t *testing.T) {
	const longest = 5
	for many := range longest + 1 {
		for fates := range 1 << many {
			l := make([]api.Span, many)
			for i := range l {
				if l[i] = keep(1); fates>>i&1 == 1 {
					l[i] = drop(1)
				}
			}
			for at := range many + 1 {
				check(t, slices.Insert(slices.Clone(l), at, put("xy")))
			}
		}
	}
}

// P8.1 and P8.2: several texts in one gap, next to each other, and with empty spans between them.
func TestSeveralTextsInOneGap(t *testing.T) {
	between := [][]api.Span{nil, empties, slices.Repeat(empties, 3)}
	for _, s := range empties {
		between = append(between, row(s), row(s, s))
	}
	for _, m := range between {
		texts := slices.Concat(row(put("x")), m, row(put("yz")), m, row(put("\xC3\xA9")))
		checkBoth(t, texts, ints(4), ints(0, 0, 0, 0, 0))
		checkBoth(t, slices.Concat(texts, m, row(keep(1))), ints(4, 5), ints(0, 0, 0, 0, 0, 1))
		checkBoth(t, slices.Concat(row(keep(1)), m, texts), ints(0, 5), ints(0, 1, 1, 1, 1, 1))
		checkBoth(t, slices.Concat(row(keep(1)), texts, row(keep(1))), ints(0, 5, 6), ints(0, 1, 1, 1, 1, 1, 2))
		checkBoth(t, slices.Concat(row(drop(1)), texts, m, row(drop(1))), ints(0, 4, 4), ints(0, 1, 1, 1, 1))
		checkBoth(t, slices.Concat(row(keep(1), drop(1)), m, texts, row(keep(1))), ints(0, 1, 5, 6), ints(0, 1, 2, 2, 2, 2, 3))
	}
}

// P8.1 and P8.2: texts with something dropped between them stand in two gaps of what is taken, though next to each other.
func TestTextsWithSomethingDroppedBetween(t *testing.T) {
	checkBoth(t, row(put("x"), drop(1), put("y")), ints(1, 2), ints(0, 0, 1))
	checkBoth(t, row(put("xx"), drop(3), put("yy")), ints(2, 2, 2, 4), ints(0, 0, 0, 3, 3))
	checkBoth(t, row(keep(1), put("x"), drop(2), put("yy"), keep(1)), ints(0, 2, 2, 4, 5), ints(0, 1, 1, 3, 3, 4))
	checkBoth(t, row(put("x"), drop(1), put("y"), drop(1), put("z")), ints(1, 2, 3), ints(0, 0, 1, 2))
	checkBoth(t, row(put("x"), drop(1), put("y"), drop(0), put("w"), drop(1), put("z")), ints(1, 3, 4), ints(0, 0, 1, 1, 2))
	checkBoth(t, row(drop(1), put("x"), drop(1), put("y"), drop(1)), ints(0, 1, 2, 2), ints(0, 1, 2))
}

// P8.1 and P8.2: code points are counted, not bytes.
func TestCodePointsAreCounted(t *testing.T) {
	for _, p := range points {
		checkBoth(t, row(put(p)), ints(1), ints(0, 0))
		checkBoth(t, row(keep(1), put(p+p), drop(1)), ints(0, 3, 3), ints(0, 1, 1, 1))
		for _, q := range points {
			checkBoth(t, row(put(p), drop(1), put(q+p+q), keep(1)), ints(1, 4, 5), ints(0, 0, 1, 1, 1, 2))
		}
	}
	all := strings.Join(points, "")
	for n := range 4 {
		checkBoth(t, row(drop(n), put(all), put(all)), append(make([]int, n), 20), append(ints(0), slices.Repeat(ints(n), 20)...))
	}
	check(t, row(keep(3), put(all), drop(2), keep(1), put(points[3]), drop(1), put(points[2]+points[1])))
}

// P8.1 and P8.2: empty spans of each kind, one and some, at each place of an operation, change nothing.
func TestEmptySpansChangeNothing(t *testing.T) {
	for _, l := range [][]api.Span{
		nil, row(keep(3)), row(put("ab")), row(drop(2)),
		row(keep(1), drop(2)), row(drop(1), put("x")), row(put("x"), drop(1)),
		row(keep(2), put("\xC3\xA9"), drop(1), keep(1), drop(4), put("y"), keep(3)),
	} {
		where, least := byWord(l)
		for at := range len(l) + 1 {
			for _, s := range empties {
				checkBoth(t, slices.Insert(slices.Clone(l), at, s), where, least)
				checkBoth(t, slices.Insert(slices.Clone(l), at, s, s), where, least)
			}
			checkBoth(t, slices.Insert(slices.Clone(l), at, empties...), where, least)
		}
	}
}

// P8.1 and P8.2: op's error of a span that may not be, alone, and first, in the middle and last of others, whatever the gap is (R3).
func TestOneWrongSpan(t *testing.T) {
	around := [][]api.Span{nil, row(keep(1)), row(put("a")), row(drop(1)), empties, row(keep(2), put("x"), drop(1))}
	for _, x := range wrong {
		for _, a := range around {
			for _, b := range around {
				checkFails(t, slices.Concat(a, row(x.s), b), x.code)
			}
		}
	}
	checkFails(t, row(put("\xC3"), put("\xA9")), api.ErrText)
}

// P8.1 and P8.2: of two wrong spans the one further left is told, and a wrong one ahead of too much.
func TestTheFirstErrorIsTold(t *testing.T) {
	for _, x := range wrong {
		for _, y := range wrong {
			checkFails(t, row(keep(3), put("b"), x.s, drop(2), y.s, put("c")), x.code)
		}
		checkFails(t, row(keep(most), drop(1), x.s), x.code)
		checkFails(t, row(x.s, drop(most), keep(most)), x.code)
	}
}

// P8.1 and P8.2: what takes more than 2^20 is too big, whatever the gap is.
func TestTooMuchIsTaken(t *testing.T) {
	for _, l := range [][]api.Span{
		row(keep(most), keep(1)), row(drop(most), drop(1)), row(keep(1), drop(most)), row(drop(most), keep(most)),
		row(put("x"), keep(most-1), put("y"), drop(2), put("z")),
		slices.Repeat(row(drop(most)), 4096),
	} {
		checkFails(t, l, api.ErrBig)
	}
}

// P8.1 and P8.2: of what takes more than it gives, and the other way about, Where goes by what is taken, and Least by what is given.
func TestWhichGapsThereAre(t *testing.T) {
	fewer := row(drop(5), keep(1), put("x"))
	askWhere(t, fewer, 6, 2, api.OK)
	askWhere(t, fewer, 7, 0, api.ErrRange)
	askLeast(t, fewer, 2, 6, api.OK)
	askLeast(t, fewer, 3, 0, api.ErrRange)
	askLeast(t, fewer, 6, 0, api.ErrRange)
	more := row(put("abcde"), keep(1))
	askWhere(t, more, 1, 6, api.OK)
	askWhere(t, more, 2, 0, api.ErrRange)
	askWhere(t, more, 6, 0, api.ErrRange)
	askLeast(t, more, 6, 1, api.OK)
	askLeast(t, more, 7, 0, api.ErrRange)
	for _, l := range [][]api.Span{fewer, more} {
		check(t, l)
	}
}

// P8.1 and P8.2: operations that take 2^20 code points in few spans, and give as many or more.
func TestVeryManyCodePoints(t *testing.T) {
	const half = most / 2
	long := strings.Repeat("a\xC3\xA9", half)
	for _, x := range []struct {
		l        []api.Span
		gap, got int
		least    bool
	}{
		{row(keep(most)), 0, 0, false}, {row(keep(most)), most - 1, most - 1, false}, {row(keep(most)), most, most, false},
		{row(keep(most)), 0, 0, true}, {row(keep(most)), 99999, 99999, true}, {row(keep(most)), most, most, true},
		{row(drop(most)), 0, 0, false}, {row(drop(most)), half, 0, false}, {row(drop(most)), most, 0, false}, {row(drop(most)), 0, 0, true},
		{row(drop(most-1), keep(1)), most - 1, 0, false}, {row(drop(most-1), keep(1)), most, 1, false},
		{row(drop(most-1), keep(1)), 0, 0, true}, {row(drop(most-1), keep(1)), 1, most, true},
		{row(keep(half), put("xy"), drop(half)), half - 1, half - 1, false}, {row(keep(half), put("xy"), drop(half)), half, half + 2, false}, {row(keep(half), put("xy"), drop(half)), most, half + 2, false},
		{row(keep(half), put("xy"), drop(half)), half, half, true}, {row(keep(half), put("xy"), drop(half)), half + 2, half, true},
		{row(keep(half), drop(half), put("xy")), half, half, false}, {row(keep(half), drop(half), put("xy")), most - 1, half, false}, {row(keep(half), drop(half), put("xy")), most, half + 2, false},
		{row(keep(half), drop(half), put("xy")), half, half, true}, {row(keep(half), drop(half), put("xy")), half + 1, most, true},
		{row(put(long), keep(most), put(long)), 0, most, false}, {row(put(long), keep(most), put(long)), most - 1, 2*most - 1, false}, {row(put(long), keep(most), put(long)), most, 3 * most, false},
		{row(put(long), keep(most), put(long)), most, 0, true}, {row(put(long), keep(most), put(long)), most + 1, 1, true}, {row(put(long), keep(most), put(long)), 2 * most, most, true}, {row(put(long), keep(most), put(long)), 3 * most, most, true},
	} {
		if x.least {
			askLeast(t, x.l, x.gap, x.got, api.OK)
		} else {
			askWhere(t, x.l, x.gap, x.got, api.OK)
		}
	}
	for _, l := range [][]api.Span{row(keep(most)), row(drop(most)), row(keep(half), put("xy"), drop(half)), row(put(long), keep(most), put(long))} {
		checkOutside(t, l, op.In(l), op.Out(l))
	}
}

// P8.1 and P8.2: very many spans.
func TestVeryManySpans(t *testing.T) {
	const many = most / 2
	l := slices.Repeat(row(keep(1), put("\xC3\xA9"), drop(1)), many)
	askWhere(t, l, most, most, api.OK)
	askWhere(t, l, most-1, most, api.OK)
	askWhere(t, l, most-2, most-2, api.OK)
	askWhere(t, l, 777, 778, api.OK)
	askLeast(t, l, most, most-1, api.OK)
	askLeast(t, l, most-1, most-1, api.OK)
	askLeast(t, l, most-2, most-3, api.OK)
	askLeast(t, l, 777, 777, api.OK)
	texts := slices.Repeat(row(put("a"), put("\xE2\x82\xAC")), most)
	askWhere(t, texts, 0, 2*most, api.OK)
	askLeast(t, texts, 2*most, 0, api.OK)
	checkOutside(t, texts, 0, 2*most)
}

// allRows are the rows of up to so many spans out of three of each kind, an empty one among these.
func allRows(longest int, visit func([]api.Span)) {
	spans := row(keep(0), keep(1), keep(2), put(""), put("d"), put("\xC3\xA9k"), drop(0), drop(1), drop(3))
	for many, rows := 0, 1; many <= longest; many, rows = many+1, rows*len(spans) {
		for order := range rows {
			l := make([]api.Span, many)
			for i := range l {
				l[i] = spans[order%len(spans)]
				order /= len(spans)
			}
			visit(l)
		}
	}
}

// P8.1 and P8.2: all short rows, at all gaps, against the chapter's own words.
func TestAllShortRows(t *testing.T) {
	allRows(4, func(l []api.Span) {
		if !t.Failed() {
			check(t, l)
		}
	})
}

// told is what a call tells of each gap from 0 to last.
func told(t *testing.T, call func([]api.Span, int) (int, api.Errno), l []api.Span, last int) []int {
	t.Helper()
	var all []int
	for gap := range last + 1 {
		n, e := call(l, gap)
		if e != api.OK {
			t.Fatalf("of %s the gap %d tells %d", show(l), gap, e)
		}
		all = append(all, n)
	}
	return all
}

// P8.3: of all short rows Where does not fall, and is op.Out at the last gap; Least and Where go together; and the shortest form tells the same.
func TestLeastAndWhereGoTogether(t *testing.T) {
	allRows(5, func(l []api.Span) {
		if t.Failed() {
			return
		}
		in, out := op.In(l), op.Out(l)
		where, least := told(t, place.Where, l, in), told(t, place.Least, l, out)
		if !slices.IsSorted(where) || where[in] != out {
			t.Errorf("Where of %s is %v, and %d are given", show(l), where, out)
		}
		for gap, first := range least {
			for g, w := range where {
				if (first <= g) != (gap <= w) {
					t.Errorf("of %s Least of %d is %d, and Where of %d is %d", show(l), gap, first, g, w)
				}
			}
		}
		short := normal.Of(l)
		if !slices.Equal(told(t, place.Where, short, in), where) || !slices.Equal(told(t, place.Least, short, out), least) {
			t.Errorf("the shortest form of %s tells other places", show(l))
		}
	})
}

// R2 and R6: an error in between changes nothing of what is told next.
func TestAnErrorChangesNothing(t *testing.T) {
	l := row(put("a"), drop(1), keep(1), put("b"))
	for _, x := range wrong {
		checkFails(t, row(put("left"), keep(1), x.s), x.code)
		checkBoth(t, l, ints(1, 1, 3), ints(0, 0, 2, 2))
	}
}
