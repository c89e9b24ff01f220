package gaps_test

import (
	"fmt"
	"math"
	"slices"
	"strings"
	"testing"

	"epitome/api"
	"epitome/gaps"
	"epitome/normal"
	"epitome/op"
)

// The bounds of an operation that may be, and of one that has gaps: 2^20 and 512, written out anew.
const (
	most     = 1048576
	mostGaps = 512
)

func keep(n int) api.Span { return api.Span{Kind: 1, N: n} }

func put(text string) api.Span { return api.Span{Kind: 2, Text: text} }

func drop(n int) api.Span { return api.Span{Kind: 3, N: n} }

func row(l ...api.Span) []api.Span { return l }

// empties are the empty spans, one of each kind.
var empties = row(keep(0), put(""), drop(0))

// made is gaps by hand: of each code point k, if it is kept, or d, if it is dropped; and what is put in each gap.
func made(fates string, put ...string) api.Gaps {
	g := api.Gaps{Put: put, Gone: make([]bool, len(fates))}
	for i := range fates {
		g.Gone[i] = fates[i] == 'd'
	}
	return g
}

// noTexts are strings that are no UTF-8 of code points.
var noTexts = []string{"\xFF", "\x80", "\xC3", "a\xFFb", "\xC3\xA9\xC3", "\xC0\x80", "\xED\xA0\x80", "\xF4\x90\x80\x80", "\xF0\x9F\x98"}

// wrong are spans that may not be, each with its error.
var wrong = []struct {
	s    api.Span
	code api.Errno
}{
	{api.Span{}, api.ErrKind},
	{api.Span{Kind: 4, N: 7}, api.ErrKind},
	{api.Span{Kind: -1, N: 5, Text: "a"}, api.ErrKind},
	{api.Span{Kind: math.MinInt, N: math.MaxInt, Text: "\xFF"}, api.ErrKind},
	{keep(-1), api.ErrSize},
	{keep(most + 1), api.ErrSize},
	{keep(math.MaxInt), api.ErrSize},
	{drop(-2), api.ErrSize},
	{drop(most + 1), api.ErrSize},
	{drop(math.MinInt), api.ErrSize},
	{api.Span{Kind: 1, N: -3, Text: "a"}, api.ErrSize},
	{api.Span{Kind: 2, N: 1, Text: "abc"}, api.ErrSize},
	{api.Span{Kind: 2, N: -1, Text: "\xC3"}, api.ErrSize},
	{api.Span{Kind: 1, N: 4, Text: "a"}, api.ErrText},
	{api.Span{Kind: 3, N: 6, Text: "ab"}, api.ErrText},
	{api.Span{Kind: 1, Text: "\xFF"}, api.ErrText},
	{put("a\xFF"), api.ErrText},
	{put("\xED\xA0\x80"), api.ErrText},
}

func sameGaps(a, b api.Gaps) bool {
	return slices.Equal(a.Put, b.Put) && slices.Equal(a.Gone, b.Gone)
}

// cut is the beginning of what is shown, if that is long.
func cut(s string) string {
	const longest = 300
	if len(s) > longest {
		return s[:longest] + " ..."
	}
	return s
}

// show is a row to be read, with no more than the beginnings of its texts.
func show(l []api.Span) string {
	short := slices.Clone(l[:min(len(l), 20)])
	for i := range short {
		short[i].Text = short[i].Text[:min(len(short[i].Text), 20)]
	}
	return cut(fmt.Sprintf("%d: %+v", len(l), short))
}

func showGaps(g api.Gaps) string {
	return cut(fmt.Sprintf("put %d: %+q, gone %d: %v", len(g.Put), g.Put[:min(len(g.Put), 20)], len(g.Gone), g.Gone[:min(len(g.Gone), 20)]))
}

// withRest is l in a memory that goes on behind it, and that memory as it is.
func withRest(l []api.Span) (given, as []api.Span) {
	const behind = 3
	given = make([]api.Span, len(l), len(l)+behind)
	copy(given, l)
	copy(given[len(l):cap(given)], row(keep(11), put("rest"), drop(13)))
	return given, slices.Clone(given[:cap(given)])
}

// gapsWithRest is g in memories that go on behind it, and these as they are.
func gapsWithRest(g api.Gaps) (given, as api.Gaps) {
	given.Put = append(slices.Clone(g.Put), "rest", "\xFF")[:len(g.Put)]
	given.Gone = append(slices.Clone(g.Gone), true, false)[:len(g.Gone)]
	return given, api.Gaps{Put: slices.Clone(given.Put[:len(g.Put)+2]), Gone: slices.Clone(given.Gone[:len(g.Gone)+2])}
}

// askOf holds what Of tells of an operation against what is wanted of it. It asks twice: what was told once must not come to be another thing.
func askOf(t *testing.T, l []api.Span, want api.Gaps, code api.Errno) {
	t.Helper()
	given, as := withRest(l)
	for range 2 {
		if got, e := gaps.Of(given); e != code || !sameGaps(got, want) {
			t.Errorf("Of(%s) = %s, %d, want %s, %d", show(l), showGaps(got), e, showGaps(want), code)
		}
	}
	if !slices.Equal(given[:cap(given)], as) {
		t.Errorf("%s was changed", show(l))
	}
}

// askSpans holds what Spans tells of gaps against what is wanted of them, and asks twice, too.
func askSpans(t *testing.T, g api.Gaps, want []api.Span, code api.Errno) {
	t.Helper()
	given, as := gapsWithRest(g)
	for range 2 {
		if got, e := gaps.Spans(given); e != code || !slices.Equal(got, want) {
			t.Errorf("Spans(%s) = %s, %d, want %s, %d", showGaps(g), show(got), e, show(want), code)
		}
	}
	if !sameGaps(api.Gaps{Put: given.Put[:len(as.Put)], Gone: given.Gone[:len(as.Gone)]}, as) {
		t.Errorf("%s was changed", showGaps(g))
	}
}

// check holds an operation and its gaps against each other, both ways, with the shortest form.
func check(t *testing.T, l []api.Span, g api.Gaps) {
	t.Helper()
	short := normal.Of(l)
	askOf(t, l, g, api.OK)
	askOf(t, short, g, api.OK)
	askSpans(t, g, short, api.OK)
}

func checkOfFails(t *testing.T, l []api.Span, code api.Errno) {
	t.Helper()
	askOf(t, l, api.Gaps{}, code)
}

func checkSpansFails(t *testing.T, g api.Gaps, code api.Errno) {
	t.Helper()
	askSpans(t, g, nil, code)
}

// byWord are the gaps of an operation, by the chapter's own words.
func byWord(l []api.Span) api.Gaps {
	taken := func(many int) int {
		n := 0
		for _, s := range l[:many] {
			if s.Kind == 1 || s.Kind == 3 {
				n += s.N
			}
		}
		return n
	}
	n := taken(len(l))
	g := api.Gaps{Put: make([]string, n+1), Gone: make([]bool, n)}
	for gap := range g.Put {
		for i, s := range l {
			if s.Kind == 2 && taken(i) == gap {
				g.Put[gap] += s.Text
			}
		}
	}
	for point := range g.Gone {
		for i, s := range l {
			if s.Kind == 3 && taken(i) <= point && point < taken(i+1) {
				g.Gone[point] = true
			}
		}
	}
	return g
}

// isShortest is the chapter's own word for what Spans tells.
func isShortest(l []api.Span) bool {
	for i, s := range l {
		if s.N == 0 && len(s.Text) == 0 || i > 0 && s.Kind == l[i-1].Kind {
			return false
		}
	}
	return true
}

// P6.1 and P6.2: the chapter's example.
func TestExample(t *testing.T) {
	check(t, row(keep(1), drop(1), put("x")), made("kd", "", "", "x"))
}

// P6.1 and P6.2: no spans at all have one gap, in which nothing is put; and these gaps have no spans, however their lists are empty.
func TestNoSpans(t *testing.T) {
	check(t, nil, made("", ""))
	check(t, row(), made("", ""))
	for _, g := range []api.Gaps{{Put: []string{""}}, {Put: []string{""}, Gone: []bool{}}} {
		if l, e := gaps.Spans(g); len(l) != 0 || e != api.OK {
			t.Errorf("Spans(%s) = %s, %d", showGaps(g), show(l), e)
		}
	}
}

// P6.1 and P6.2: one span of each kind.
func TestOneSpan(t *testing.T) {
	for n := range mostGaps + 1 {
		none := make([]string, n+1)
		check(t, row(keep(n)), made(strings.Repeat("k", n), none...))
		check(t, row(drop(n)), made(strings.Repeat("d", n), none...))
	}
	for _, text := range []string{"a", "ab", " ", "\x00", "0", "\n", "\xC3\xA9", "\xCC\x81", "\xEF\xBF\xBD", "\xEF\xBB\xBF", "\xF0\x9F\x98\x80", "\xF4\x8F\xBF\xBF"} {
		check(t, row(put(text)), made("", text))
	}
}

// P6.1: empty spans of each kind, alone and at each place of others, tell nothing.
func TestEmptySpans(t *testing.T) {
	for _, s := range empties {
		check(t, row(s), made("", ""))
		check(t, row(s, s), made("", ""))
	}
	check(t, empties, made("", ""))
	check(t, slices.Repeat(empties, 10000), made("", ""))
	for _, x := range []struct {
		l []api.Span
		g api.Gaps
	}{
		{row(keep(2)), made("kk", "", "", "")},
		{row(put("ab")), made("", "ab")},
		{row(drop(2)), made("dd", "", "", "")},
		{row(put("a"), put("b")), made("", "ab")},
		{row(drop(1), put("x")), made("d", "", "x")},
		{row(put("x"), drop(1)), made("d", "x", "")},
		{row(put("p"), keep(2), put("\xC3\xA9"), drop(1), drop(1), put("y"), put("z"), keep(1)), made("kkddk", "p", "", "\xC3\xA9", "", "yz", "")},
	} {
		for at := range len(x.l) + 1 {
			for _, s := range empties {
				check(t, slices.Insert(slices.Clone(x.l), at, s), x.g)
				check(t, slices.Insert(slices.Clone(x.l), at, s, s), x.g)
			}
			check(t, slices.Insert(slices.Clone(x.l), at, empties...), x.g)
		}
	}
}

// P6.1: several texts put in one gap stand there in their order; with something taken between them they stand in two.
func TestSeveralTexts(t *testing.T) {
	check(t, row(put("b"), put("a")), made("", "ba"))
	check(t, row(put("c"), put("\xC3\xA9a"), put("b")), made("", "c\xC3\xA9ab"))
	check(t, row(put("e"), put("\xCC\x81")), made("", "e\xCC\x81"))
	check(t, row(put("\x00"), put("\xEF\xBF\xBD"), put("\x00")), made("", "\x00\xEF\xBF\xBD\x00"))
	check(t, row(keep(1), put("b"), put("a"), drop(1)), made("kd", "", "ba", ""))
	check(t, row(drop(1), put("b"), put("a"), put("a"), keep(1)), made("dk", "", "baa", ""))
	for _, s := range empties {
		check(t, row(put("b"), s, put("a")), made("", "ba"))
		check(t, row(keep(1), put("b"), s, put("a"), s, s, put("c"), drop(1)), made("kd", "", "bac", ""))
	}
	check(t, row(put("b"), keep(1), put("a")), made("k", "b", "a"))
	check(t, row(put("b"), drop(1), put("a")), made("d", "b", "a"))
	check(t, row(put("b"), keep(2), put("a")), made("kk", "b", "", "a"))
	check(t, row(put("b"), drop(2), put("a")), made("dd", "b", "", "a"))
	check(t, row(put("b"), drop(1), keep(1), put("a")), made("dk", "b", "", "a"))
	check(t, row(put("a"), put("b"), keep(1), put("c"), put("d"), drop(1), put("e"), put("f")), made("kd", "ab", "cd", "ef"))
}

// P6.1: many texts in one gap; to put them together two by two would take all day.
func TestManyTexts(t *testing.T) {
	const half = most / 2
	long := strings.Repeat("a\xC3\xA9", half)
	texts := slices.Repeat(row(put("a"), put("\xC3\xA9")), half)
	check(t, texts, made("", long))
	check(t, row(put(long)), made("", long))
	check(t, slices.Concat(row(keep(1)), texts, row(drop(1))), made("kd", "", long, ""))
	check(t, slices.Concat(texts, row(drop(mostGaps)), texts), made(strings.Repeat("d", mostGaps), append(append([]string{long}, make([]string, mostGaps-1)...), long)...))
}

// P6.1 and P6.2: what is put ahead of the first code point, between two, and behind the last one, whatever becomes of the code points.
func TestWhereIsPut(t *testing.T) {
	take := map[byte]func(int) api.Span{'k': keep, 'd': drop}
	for _, fates := range []string{"k", "d", "kk", "kd", "dk", "dd", "kkk", "kdk", "dkd", "ddd", "kkdd", "dkkd"} {
		for at := range len(fates) + 1 {
			l, texts := row(), make([]string, len(fates)+1)
			for i := range len(fates) + 1 {
				if i == at {
					l = append(l, put("xy"))
				}
				if i < len(fates) {
					l = append(l, take[fates[i]](1))
				}
			}
			texts[at] = "xy"
			check(t, l, made(fates, texts...))
		}
	}
	check(t, row(put("a"), keep(1), put("b"), keep(1), put("c")), made("kk", "a", "b", "c"))
	check(t, row(put("a"), keep(2), put("b"), drop(3), put("c")), made("kkddd", "a", "", "b", "", "", "c"))
}

// P6.1 and P6.2: what is dropped ahead of what is put, and the other way about, are told apart.
func TestDroppedAheadOrBehind(t *testing.T) {
	check(t, row(drop(1), put("x")), made("d", "", "x"))
	check(t, row(put("x"), drop(1)), made("d", "x", ""))
	check(t, row(drop(1), put("x"), drop(1)), made("dd", "", "x", ""))
	check(t, row(put("x"), drop(2)), made("dd", "x", "", ""))
	check(t, row(drop(2), put("x")), made("dd", "", "", "x"))
	check(t, row(keep(1), drop(1), put("x"), keep(1)), made("kdk", "", "", "x", ""))
	check(t, row(keep(1), put("x"), drop(1), keep(1)), made("kdk", "", "x", "", ""))
}

// P6.1: op's error of a span that may not be, alone, and first, in the middle and last of others.
func TestOneWrongSpan(t *testing.T) {
	around := [][]api.Span{nil, row(keep(1)), row(put("a")), row(drop(1)), empties, row(keep(2), put("x"), drop(1))}
	for _, x := range wrong {
		for _, a := range around {
			for _, b := range around {
				checkOfFails(t, slices.Concat(a, row(x.s), b), x.code)
			}
		}
	}
	checkOfFails(t, row(put("\xC3"), put("\xA9")), api.ErrText)
}

// P6.1: of two wrong spans the one further left is told.
func TestTheFirstWrongSpanIsTold(t *testing.T) {
	for _, x := range wrong {
		for _, y := range wrong {
			checkOfFails(t, row(x.s, y.s), x.code)
			checkOfFails(t, row(keep(3), put("b"), x.s, drop(2), y.s, put("c")), x.code)
		}
	}
}

// P6.1: what takes 512 has gaps, what takes 513 is too long, by one span, by two, and by many.
func TestHowMuchIsTaken(t *testing.T) {
	none := make([]string, mostGaps+1)
	kept, gone := strings.Repeat("k", mostGaps), strings.Repeat("d", mostGaps)
	check(t, row(keep(mostGaps)), made(kept, none...))
	check(t, row(drop(mostGaps)), made(gone, none...))
	check(t, slices.Repeat(row(keep(1)), mostGaps), made(kept, none...))
	check(t, slices.Repeat(row(drop(1)), mostGaps), made(gone, none...))
	checkOfFails(t, slices.Repeat(row(keep(1)), mostGaps+1), api.ErrBig)
	checkOfFails(t, slices.Repeat(row(drop(1)), mostGaps+1), api.ErrBig)
	for n := range mostGaps + 1 {
		m := mostGaps - n
		check(t, row(keep(n), drop(m)), made(kept[:n]+gone[n:], none...))
		check(t, row(drop(n), keep(m)), made(gone[:n]+kept[n:], none...))
		for _, l := range [][]api.Span{
			row(keep(n), keep(m+1)), row(drop(n), drop(m+1)), row(keep(n), drop(m+1)), row(drop(n), keep(m+1)),
			row(keep(n), put("a"), drop(m), put(""), keep(1)),
		} {
			checkOfFails(t, l, api.ErrBig)
		}
	}
	for _, n := range []int{mostGaps + 1, mostGaps + 2, 2 * mostGaps, 65536, most - 1, most} {
		checkOfFails(t, row(keep(n)), api.ErrBig)
		checkOfFails(t, row(drop(n)), api.ErrBig)
		checkOfFails(t, row(put("a"), keep(n-1), drop(1), put("b")), api.ErrBig)
	}
}

// P6.1: with 512 code points there is something in each of the 513 gaps; how much is put is not bounded.
func TestAllGapsArePutIn(t *testing.T) {
	l, texts, fates := row(), []string{}, ""
	for i := range mostGaps + 1 {
		texts = append(texts, fmt.Sprint("\xC3\xA9", i))
		l = append(l, put(texts[i]))
		switch {
		case i == mostGaps:
		case i%3 == 0:
			l, fates = append(l, drop(1)), fates+"d"
		default:
			l, fates = append(l, keep(1)), fates+"k"
		}
	}
	check(t, l, made(fates, texts...))
	checkOfFails(t, append(l, drop(1)), api.ErrBig)
	checkOfFails(t, append(l, keep(1)), api.ErrBig)
	long := strings.Repeat("x", 2*most)
	check(t, row(keep(mostGaps), put(long)), made(strings.Repeat("k", mostGaps), append(make([]string, mostGaps), long)...))
	checkOfFails(t, row(put(long), keep(mostGaps), drop(1), put(long)), api.ErrBig)
}

// P6.1 with R3: a wrong span is told ahead of ErrBig, wherever it stands; too much for any operation is ErrBig, as is too much for gaps.
func TestAWrongSpanIsToldAheadOfTooMuch(t *testing.T) {
	for _, x := range wrong {
		for _, much := range []int{mostGaps + 1, most} {
			checkOfFails(t, row(x.s, keep(much)), x.code)
			checkOfFails(t, row(drop(much), x.s), x.code)
			checkOfFails(t, row(keep(much), x.s, drop(1)), x.code)
			checkOfFails(t, row(put("a"), drop(much), keep(1), x.s, keep(1)), x.code)
		}
	}
	checkOfFails(t, row(keep(most), keep(1)), api.ErrBig)
	checkOfFails(t, row(drop(most), keep(most)), api.ErrBig)
	checkOfFails(t, slices.Repeat(row(drop(most)), 4096), api.ErrBig)
}

// P6.2: Put has one more than Gone: one too few, as many, one and many too many, or none at all, is ErrLen.
func TestLengthsThatDoNotMeet(t *testing.T) {
	for _, n := range []int{0, 1, 2, 3, 10, mostGaps - 1, mostGaps, mostGaps + 1, 2 * mostGaps} {
		gone := make([]bool, n)
		for _, m := range []int{0, n - 1, n, n + 2, n + 3, 2*n + 2, n + 100, n + 65537} {
			if m != n+1 && m >= 0 {
				checkSpansFails(t, api.Gaps{Put: make([]string, m), Gone: gone}, api.ErrLen)
				checkSpansFails(t, api.Gaps{Put: slices.Repeat([]string{"a"}, m), Gone: gone}, api.ErrLen)
			}
		}
	}
	checkSpansFails(t, api.Gaps{}, api.ErrLen)
	checkSpansFails(t, api.Gaps{Gone: []bool{true}}, api.ErrLen)
	checkSpansFails(t, api.Gaps{Put: []string{"", ""}}, api.ErrLen)
}

// P6.2: Gone of 512 has an operation, of 513 and more it is too long.
func TestHowMuchIsGone(t *testing.T) {
	for _, unit := range []string{"k", "d", "kd", "dk", "kkd", "ddddk"} {
		for _, text := range []string{"", "a", "\xC3\xA9"} {
			fates := strings.Repeat(unit, 2*mostGaps)
			texts := slices.Repeat([]string{text}, 2*mostGaps+1)
			for _, n := range []int{mostGaps - 1, mostGaps} {
				g := made(fates[:n], texts[:n+1]...)
				check(t, unitByUnit(g), g)
			}
			for _, n := range []int{mostGaps + 1, mostGaps + 2, 2 * mostGaps} {
				checkSpansFails(t, made(fates[:n], texts[:n+1]...), api.ErrBig)
			}
		}
	}
	checkSpansFails(t, api.Gaps{Put: make([]string, most+1), Gone: make([]bool, most)}, api.ErrBig)
}

// unitByUnit is an operation of these gaps, a span for each of them and for each code point.
func unitByUnit(g api.Gaps) []api.Span {
	l := row()
	for i, text := range g.Put {
		l = append(l, put(text))
		if i < len(g.Gone) && g.Gone[i] {
			l = append(l, drop(1))
		} else if i < len(g.Gone) {
			l = append(l, keep(1))
		}
	}
	return l
}

// P6.2: a text of Put that is none, first, in the middle, last, and in some.
func TestATextThatIsNone(t *testing.T) {
	for _, n := range []int{0, 1, 2, 5, mostGaps} {
		for _, fate := range []string{"k", "d"} {
			for _, others := range []string{"", "a"} {
				for _, none := range noTexts {
					for _, at := range []int{0, n / 2, max(n-1, 0), n} {
						texts := slices.Repeat([]string{others}, n+1)
						texts[at] = none
						checkSpansFails(t, made(strings.Repeat(fate, n), texts...), api.ErrText)
					}
					checkSpansFails(t, made(strings.Repeat(fate, n), slices.Repeat([]string{none}, n+1)...), api.ErrText)
				}
			}
		}
	}
	checkSpansFails(t, made("k", "\xC3", "\xA9"), api.ErrText)
}

// P6.2 with R3: of two errors that apply the one that the chapter names first is told.
func TestTheFirstErrorOfGapsIsTold(t *testing.T) {
	gone := make([]bool, mostGaps+1)
	none := slices.Repeat([]string{"\xFF"}, mostGaps+10)
	for _, m := range []int{0, 1, mostGaps, mostGaps + 1, mostGaps + 3, mostGaps + 10} {
		checkSpansFails(t, api.Gaps{Put: make([]string, m), Gone: gone}, api.ErrLen)
		checkSpansFails(t, api.Gaps{Put: none[:m], Gone: gone}, api.ErrLen)
	}
	for _, n := range []int{0, 1, 5, mostGaps} {
		for _, m := range []int{n - 1, n, n + 2, n + 5} {
			if m > 0 {
				checkSpansFails(t, api.Gaps{Put: none[:m], Gone: gone[:n]}, api.ErrLen)
			}
		}
	}
	for at := range mostGaps + 2 {
		texts := make([]string, mostGaps+2)
		texts[at] = "\xFF"
		checkSpansFails(t, api.Gaps{Put: texts, Gone: gone}, api.ErrBig)
	}
}

// allRows are the rows of up to so many spans out of three of each kind, an empty one among these.
func allRows(longest int, visit func([]api.Span)) {
	spans := row(keep(0), keep(1), keep(2), put(""), put("d"), put("\xC3\xA9k"), drop(0), drop(1), drop(3))
	for many, rows := 0, 1; many <= longest; many, rows = many+1, rows*len(spans) {
		for order := range rows {
			l := make([]api.Span, many)
			for i := range l {
				l[i] = spans[order%len(spans)]
				order /= len(spans)
			}
			visit(l)
		}
	}
}

// P6.1 and P6.2: all short rows, against the chapter's own words.
func TestAllShortRows(t *testing.T) {
	allRows(4, func(l []api.Span) {
		if !t.Failed() {
			check(t, l, byWord(l))
		}
	})
}

// P6.3: of two operations of the same gaps the shortest forms are the same, and of two of other gaps not; and none has fewer spans than what Spans tells.
func TestTheSameGapsJustIfTheSameShortestForm(t *testing.T) {
	formOf, gapsOf := map[string]string{}, map[string]string{}
	allRows(5, func(l []api.Span) {
		g, e := gaps.Of(l)
		if e != api.OK || t.Failed() {
			t.Fatalf("Of(%s) tells %d", show(l), e)
		}
		places, form := fmt.Sprintf("%q %v", g.Put, g.Gone), fmt.Sprint(normal.Of(l))
		if was, seen := formOf[places]; seen && was != form {
			t.Errorf("of the gaps %s there are %s and %s", places, was, form)
		}
		if was, seen := gapsOf[form]; seen && was != places {
			t.Errorf("%s has the gaps %s and %s", form, was, places)
		}
		formOf[places], gapsOf[form] = form, places
		if short, _ := gaps.Spans(g); len(short) > len(l) || fmt.Sprint(short) != form {
			t.Errorf("Spans tells %s of the gaps of %s, of which the shortest form is %s", show(short), show(l), form)
		}
	})
}

// P6.2 and P6.3: of all gaps of up to four code points, with each of three texts in each: what Spans tells may be, is short, and has these gaps.
func TestAllFewGaps(t *testing.T) {
	texts := []string{"", "a", "\xC3\xA9"}
	for many, all := 0, 3; many <= 4; many, all = many+1, all*6 {
		for order := range all {
			g := api.Gaps{Put: make([]string, many+1), Gone: make([]bool, many)}
			for i := range g.Put {
				g.Put[i] = texts[order%3]
				order /= 3
			}
			for i := range g.Gone {
				g.Gone[i] = order%2 == 1
				order /= 2
			}
			l, e := gaps.Spans(g)
			if e != api.OK || op.May(l) != api.OK || op.In(l) != many || !isShortest(l) || !sameGaps(byWord(l), g) {
				t.Fatalf("Spans(%s) = %s, %d", showGaps(g), show(l), e)
			}
			check(t, unitByUnit(g), g)
		}
	}
}

// overwriteGaps writes into all of the memory of gaps.
func overwriteGaps(g api.Gaps) {
	g.Put, g.Gone = g.Put[:cap(g.Put)], g.Gone[:cap(g.Gone)]
	for i := range g.Put {
		g.Put[i] = "over"
	}
	for i := range g.Gone {
		g.Gone[i] = !g.Gone[i]
	}
}

// overwrite writes into all of the memory of a row.
func overwrite(l []api.Span) {
	l = l[:cap(l)]
	for i := range l {
		l[i] = api.Span{Kind: 1, N: 99, Text: "over"}
	}
}

// rowsToWriteInto have something and nothing put and dropped, and as many gaps as there may be.
var rowsToWriteInto = [][]api.Span{
	nil, row(keep(0)), row(keep(1)), row(put("a")), row(drop(3), put("b"), keep(2)),
	row(keep(1), keep(2)), row(keep(0), put("x"), put("y"), drop(0)),
	row(put("f"), drop(200), keep(300), drop(12), put("l")),
}

// P6.1 and R7: what Of tells is the caller's own: neither what was handed in, nor what was told of it before, sees what becomes of it, nor the other way about.
func TestWhatOfTellsIsTheCallersOwn(t *testing.T) {
	for _, l := range rowsToWriteInto {
		want := byWord(l)
		given, as := withRest(l)
		first, _ := gaps.Of(given)
		second, _ := gaps.Of(given)
		overwriteGaps(first)
		if !slices.Equal(given[:cap(given)], as) {
			t.Errorf("Of(%s) tells the memory that it was given", show(l))
		}
		overwrite(given)
		if !sameGaps(second, want) {
			t.Errorf("what Of(%s) told is %s by now, not %s", show(l), showGaps(second), showGaps(want))
		}
		askOf(t, l, want, api.OK)
	}
}

// P6.2 and R7: what Spans tells is the caller's own, too.
func TestWhatSpansTellsIsTheCallersOwn(t *testing.T) {
	for _, l := range rowsToWriteInto {
		want, g := normal.Of(l), byWord(l)
		given, as := gapsWithRest(g)
		first, _ := gaps.Spans(given)
		second, _ := gaps.Spans(given)
		overwrite(first)
		if !sameGaps(api.Gaps{Put: given.Put[:len(as.Put)], Gone: given.Gone[:len(as.Gone)]}, as) {
			t.Errorf("Spans(%s) tells the memory that it was given", showGaps(g))
		}
		overwriteGaps(given)
		if !slices.Equal(second, want) {
			t.Errorf("what Spans(%s) told is %s by now, not %s", showGaps(g), show(second), show(want))
		}
		askSpans(t, g, want, api.OK)
	}
}

// R2 and R6: an error in between changes nothing of what is told next.
func TestAnErrorChangesNothing(t *testing.T) {
	l, g := row(put("a"), drop(1), keep(1), put("b")), made("dk", "a", "", "b")
	for _, x := range wrong {
		checkOfFails(t, row(put("left"), drop(1), x.s, keep(mostGaps)), x.code)
		check(t, l, g)
	}
	checkOfFails(t, row(put("left"), drop(mostGaps), put("left"), drop(1)), api.ErrBig)
	check(t, l, g)
	checkSpansFails(t, made("dd", "left", "left", "\xFF"), api.ErrText)
	check(t, l, g)
}
