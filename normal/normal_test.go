package normal_test

import (
	"fmt"
	"math"
	"slices"
	"strings"
	"testing"

	"epitome/api"
	"epitome/normal"
	"epitome/op"
)

// most is the greatest number that an operation may take: 2^20, written out anew.
const most = 1048576

func keep(n int) api.Span { return api.Span{Kind: 1, N: n} }

func put(text string) api.Span { return api.Span{Kind: 2, Text: text} }

func drop(n int) api.Span { return api.Span{Kind: 3, N: n} }

func row(l ...api.Span) []api.Span { return l }

// kinds are those of the spans that may be, by how one of so much is made: of a put as many texts of two bytes.
var kinds = []func(n int) api.Span{keep, func(n int) api.Span { return put(strings.Repeat("\xC3\xA9", n)) }, drop}

// empties are the empty spans, one of each kind.
var empties = row(keep(0), put(""), drop(0))

// show is a row to be read, a long one cut short.
func show(l []api.Span) string {
	var b strings.Builder
	for i, s := range l {
		if i == 8 {
			return b.String() + " ..."
		}
		if len(s.Text) > 20 {
			s.Text = s.Text[:20] + "..."
		}
		fmt.Fprintf(&b, " %+v", s)
	}
	return "[" + b.String() + " ]"
}

// isShortest is the chapter's own word for the shortest form.
func isShortest(l []api.Span) bool {
	for i := range l {
		if l[i].N == 0 && len(l[i].Text) == 0 {
			return false
		}
	}
	for i := 1; i < len(l); i++ {
		if l[i-1].Kind == l[i].Kind {
			return false
		}
	}
	return true
}

// withRest is l in a memory that goes on behind it, and that memory as it is.
func withRest(l []api.Span) (given, as []api.Span) {
	const behind = 3
	given = make([]api.Span, len(l), len(l)+behind)
	copy(given, l)
	copy(given[len(l):cap(given)], row(keep(11), put("rest"), drop(13)))
	return given, slices.Clone(given[:cap(given)])
}

// check holds what Of and Is tell of an operation against what is wanted of it, and what Of tells against all that follows from it. It asks twice: what was told once must not come to be another thing.
func check(t *testing.T, l, want []api.Span) {
	t.Helper()
	given, as := withRest(l)
	for range 2 {
		got := normal.Of(given)
		if !slices.Equal(got, want) {
			t.Errorf("Of(%s) = %s, want %s", show(l), show(got), show(want))
		}
		checkIs(t, given, slices.Equal(l, want))
		checkShortest(t, given, got)
	}
	if !slices.Equal(given[:cap(given)], as) {
		t.Errorf("%s was changed", show(l))
	}
}

func checkIs(t *testing.T, l []api.Span, want bool) {
	t.Helper()
	if want != isShortest(l) {
		t.Fatalf("what is wanted of Is(%s) is wrong", show(l))
	}
	if got := normal.Is(l); got != want {
		t.Errorf("Is(%s) = %v, want %v", show(l), got, want)
	}
}

// checkShortest holds to P5.3: got, told by Of(l), is normal, stays as it is, takes and gives as many as l, and has no more spans.
func checkShortest(t *testing.T, l, got []api.Span) {
	t.Helper()
	checkIs(t, got, true)
	if again := normal.Of(got); !slices.Equal(again, got) {
		t.Errorf("Of(%s) = %s, though it is normal", show(got), show(again))
	}
	if op.In(got) != op.In(l) || op.Out(got) != op.Out(l) {
		t.Errorf("Of(%s) = %s takes %d and gives %d, not %d and %d", show(l), show(got), op.In(got), op.Out(got), op.In(l), op.Out(l))
	}
	if len(got) > len(l) || len(got) == len(l) && !slices.Equal(got, l) {
		t.Errorf("Of(%s) = %s, which is no shorter", show(l), show(got))
	}
}

// P5.1 and P5.2: the chapter's example.
func TestExample(t *testing.T) {
	check(t, row(keep(1), drop(0), keep(2), put("a"), put("b")), row(keep(3), put("ab")))
}

// P5.1 and P5.2: no spans at all are normal.
func TestNoSpans(t *testing.T) {
	check(t, nil, nil)
	check(t, row(), nil)
	if got := normal.Of(nil); len(got) != 0 || !normal.Is(nil) {
		t.Errorf("Of(nil) = %s, Is(nil) = %v", show(got), normal.Is(nil))
	}
}

// P5.1 and P5.2: one span that is not empty is normal, the least and the greatest among them; what a text is of does not matter.
func TestOneSpan(t *testing.T) {
	for _, n := range []int{1, 2, 255, 256, 65536, most - 1, most} {
		check(t, row(keep(n)), row(keep(n)))
		check(t, row(drop(n)), row(drop(n)))
	}
	for _, text := range []string{"a", "ab", " ", "\x00", "0", "\n", "\xC3\xA9", "\xCC\x81", "\xEF\xBF\xBD", "\xEF\xBB\xBF", "\xF0\x9F\x98\x80", strings.Repeat("\xC3\xA9", most)} {
		check(t, row(put(text)), row(put(text)))
	}
}

// P5.1 and P5.2: nothing but empty spans, in every order of the kinds.
func TestOnlyEmptySpans(t *testing.T) {
	const longest = 6
	rows := [][]api.Span{nil}
	for range longest {
		var longer [][]api.Span
		for _, l := range rows {
			for _, s := range empties {
				longer = append(longer, append(slices.Clone(l), s))
			}
		}
		rows = longer
		for _, l := range rows {
			check(t, l, nil)
		}
	}
	check(t, slices.Repeat(empties, 10000), nil)
}

// P5.1 and P5.2: an empty span, or some, at each place of what is normal else.
func TestEmptySpansAreLeftOut(t *testing.T) {
	for _, want := range [][]api.Span{
		row(keep(3)), row(put("ab")), row(drop(2)),
		row(keep(1), drop(2)), row(drop(1), put("x")), row(put("x"), drop(1)),
		row(keep(2), put("\xC3\xA9"), drop(1), keep(1), drop(4), put("y"), keep(7)),
	} {
		check(t, want, want)
		for at := range len(want) + 1 {
			for _, s := range empties {
				check(t, slices.Insert(slices.Clone(want), at, s), want)
				check(t, slices.Insert(slices.Clone(want), at, s, s), want)
			}
			check(t, slices.Insert(slices.Clone(want), at, empties...), want)
		}
	}
}

// P5.1 and P5.2: with an empty span, or some, between them two of one kind are next to each other all the same.
func TestEmptySpansBetweenTwoOfOneKind(t *testing.T) {
	between := [][]api.Span{empties, slices.Repeat(empties, 3)}
	for _, s := range empties {
		between = append(between, row(s), row(s, s))
	}
	for _, m := range between {
		check(t, slices.Concat(row(keep(1)), m, row(keep(2))), row(keep(3)))
		check(t, slices.Concat(row(put("b")), m, row(put("a"))), row(put("ba")))
		check(t, slices.Concat(row(drop(5)), m, row(drop(8))), row(drop(13)))
		check(t, slices.Concat(m, row(drop(1)), m, row(put("x")), m, row(put("y")), m, row(drop(2)), m, row(drop(3)), m),
			row(drop(1), put("xy"), drop(5)))
		check(t, slices.Concat(row(keep(1)), m, row(drop(2)), m, row(keep(4))), row(keep(1), drop(2), keep(4)))
	}
}

// P5.1 and P5.2: two and three next to each other of each kind, alone and with others around.
func TestSpansOfOneKindComeTogether(t *testing.T) {
	for _, x := range []struct{ l, want []api.Span }{
		{row(keep(1), keep(1)), row(keep(2))},
		{row(drop(1), drop(1)), row(drop(2))},
		{row(put("a"), put("a")), row(put("aa"))},
		{row(keep(1), keep(20), keep(300)), row(keep(321))},
		{row(drop(300), drop(20), drop(1)), row(drop(321))},
		{row(put("c"), put("\xC3\xA9a"), put("b")), row(put("c\xC3\xA9ab"))},
		{row(put("e"), put("\xCC\x81")), row(put("e\xCC\x81"))},
		{row(put("\x00"), put("\xEF\xBF\xBD"), put("\x00")), row(put("\x00\xEF\xBF\xBD\x00"))},
		{row(keep(most), keep(1)), row(keep(most + 1))},
		{row(drop(most), drop(most)), row(drop(2 * most))},
	} {
		check(t, x.l, x.want)
		for _, around := range kinds {
			s := around(9)
			if s.Kind != x.want[0].Kind {
				check(t, slices.Concat(row(s), x.l), slices.Concat(row(s), x.want))
				check(t, slices.Concat(x.l, row(s)), slices.Concat(x.want, row(s)))
				check(t, slices.Concat(row(s), x.l, row(s)), slices.Concat(row(s), x.want, row(s)))
				check(t, slices.Concat(x.l, row(s), x.l), slices.Concat(x.want, row(s), x.want))
			}
		}
	}
}

// P5.1 and P5.2: many next to each other; to put the texts together two by two would take all day, and cut to 32 bits the sum of the greatest ones would be 0.
func TestManySpansComeTogether(t *testing.T) {
	for _, n := range []int{10, 1000, most} {
		check(t, slices.Repeat(row(keep(1)), n), row(keep(n)))
		check(t, slices.Repeat(row(drop(1)), n), row(drop(n)))
		check(t, slices.Repeat(row(put("a"), put("b")), n/2), row(put(strings.Repeat("ab", n/2))))
	}
	check(t, slices.Repeat(row(keep(most)), 4096), row(keep(1<<32)))
	check(t, slices.Repeat(row(drop(most), keep(0)), 8192), row(drop(1<<33)))
	check(t, slices.Repeat(row(put("x"), put("y"), drop(1), drop(2)), 5000), slices.Repeat(row(put("xy"), drop(3)), 5000))
}

// P5.1: none changes its place: what is dropped ahead of what is put stays ahead of it, and the other way about.
func TestPlacesStay(t *testing.T) {
	for _, l := range [][]api.Span{
		row(drop(1), put("a")),
		row(put("a"), drop(1)),
		row(drop(1), put("a"), drop(2)),
		row(put("a"), drop(1), put("b")),
		row(drop(1), put("a"), drop(1), put("a")),
		row(put("b"), keep(1), put("a")),
		row(keep(1), drop(1), keep(1)),
		row(drop(1), keep(1), drop(1), put("x"), keep(1), put("y")),
	} {
		check(t, l, l)
	}
	check(t, row(drop(1), drop(0), put("a"), put(""), drop(2)), row(drop(1), put("a"), drop(2)))
	check(t, row(drop(1), drop(2), put("b"), put("a")), row(drop(3), put("ba")))
	check(t, row(put("b"), put("a"), drop(1), drop(2)), row(put("ba"), drop(3)))
	check(t, row(put("b"), drop(1), keep(0), drop(2), put("a")), row(put("b"), drop(3), put("a")))
}

// bits are what an operation does bit by bit: a letter for each code point that is kept or dropped, and each byte that is put behind a mark.
func bits(l []api.Span) string {
	var b strings.Builder
	for _, s := range l {
		switch s.Kind {
		case 1:
			b.WriteString(strings.Repeat("k", s.N))
		case 2:
			for i := range len(s.Text) {
				b.WriteString("+" + s.Text[i:i+1])
			}
		case 3:
			b.WriteString(strings.Repeat("d", s.N))
		}
	}
	return b.String()
}

// ofBits is the shortest form, put together bit by bit.
func ofBits(b string) []api.Span {
	var l []api.Span
	last := func(kind int) *api.Span {
		if len(l) == 0 || l[len(l)-1].Kind != kind {
			l = append(l, api.Span{Kind: kind})
		}
		return &l[len(l)-1]
	}
	for ; len(b) > 0; b = b[1:] {
		switch b[0] {
		case 'k':
			last(1).N++
		case 'd':
			last(3).N++
		case '+':
			last(2).Text += b[1:2]
			b = b[1:]
		}
	}
	return l
}

// P5.1, P5.2 and P5.3: all rows of up to five spans out of three of each kind, an empty one among these, against what the bits come to.
func TestAllShortRows(t *testing.T) {
	const longest = 5
	spans := row(keep(0), keep(1), keep(2), put(""), put("d"), put("\xC3\xA9k"), drop(0), drop(1), drop(3))
	for many, rows := 0, 1; many <= longest; many, rows = many+1, rows*len(spans) {
		for order := range rows {
			l := make([]api.Span, many)
			for i := range l {
				l[i] = spans[order%len(spans)]
				order /= len(spans)
			}
			check(t, l, ofBits(bits(l)))
			if t.Failed() {
				return
			}
		}
	}
}

// P5.1, P5.2 and P5.3: rows of up to nine spans, the kinds in every order: the span at place i has 2^i, so that each sum tells which spans are in it.
func TestEveryOrderOfKinds(t *testing.T) {
	const longest = 9
	for many, rows := 0, 1; many <= longest; many, rows = many+1, rows*3 {
		for order := range rows {
			l := make([]api.Span, many)
			for i := range l {
				l[i] = kinds[order%3](1 << i)
				order /= 3
			}
			check(t, l, ofBits(bits(l)))
			if t.Failed() {
				return
			}
		}
	}
}

// P5.2: one fault, first, in the middle and last, of what is normal else.
func TestOneFaultIsSeen(t *testing.T) {
	long := slices.Repeat(row(keep(1), put("a"), drop(1)), 20)
	checkIs(t, long, true)
	for i := range long {
		for _, s := range empties {
			checkIs(t, slices.Insert(slices.Clone(long), i, s), false)
		}
		checkIs(t, slices.Insert(slices.Clone(long), i, long[i]), false)
		checkIs(t, slices.Insert(slices.Clone(long), i, kinds[long[i].Kind-1](7)), false)
		checkIs(t, slices.Concat(long[:i], row(api.Span{Kind: long[i].Kind}), long[i+1:]), false)
	}
	for _, s := range empties {
		checkIs(t, append(slices.Clone(long), s), false)
	}
	checkIs(t, append(slices.Clone(long), drop(2)), false)
}

// overwrite writes into all of a row's memory.
func overwrite(l []api.Span) {
	l = l[:cap(l)]
	for i := range l {
		l[i] = api.Span{Kind: 1, N: 99, Text: "over"}
	}
}

// P5.3 and R7: what is told is the caller's own, also of what was normal already: neither what was handed in, nor what was told of it before, sees what becomes of it, nor the other way about.
func TestWhatIsToldIsTheCallersOwn(t *testing.T) {
	for _, l := range [][]api.Span{
		nil, row(keep(0)), row(keep(1)), row(put("a")), row(drop(3), put("b"), keep(2)),
		row(keep(1), keep(2)), row(keep(0), put("x"), put("y"), drop(0)),
		row(drop(1), drop(1), put(""), drop(1), put("z"), keep(4), keep(0)),
	} {
		want := ofBits(bits(l))
		given, as := withRest(l)
		first, second := normal.Of(given), normal.Of(given)
		again := normal.Of(second)
		overwrite(first)
		if !slices.Equal(given[:cap(given)], as) {
			t.Errorf("Of(%s) tells the memory that it was given", show(l))
		}
		overwrite(given)
		if !slices.Equal(second, want) {
			t.Errorf("what Of(%s) told is %s by now, not %s", show(l), show(second), show(want))
		}
		overwrite(second)
		if !slices.Equal(again, want) {
			t.Errorf("what Of told of what is normal is %s by now, not %s", show(again), show(want))
		}
	}
}

// R1 and R7: spans that may not be, which none is to ask of, make no call panic, and are not changed.
func TestSpansThatMayNotBe(t *testing.T) {
	wrong := row(
		api.Span{}, api.Span{Kind: 4, N: 7}, api.Span{Kind: -1, N: 5, Text: "a"}, api.Span{Kind: math.MinInt, N: math.MaxInt}, api.Span{Kind: math.MaxInt, Text: "\xFF"},
		keep(-1), keep(math.MaxInt), keep(math.MinInt), drop(-2), drop(most+1), api.Span{Kind: 3, N: 2, Text: "ab"},
		api.Span{Kind: 2, N: 1, Text: "abc"}, put("a\xFF"), put("\xC3"), put("\xA9"),
	)
	rows := [][]api.Span{wrong, slices.Repeat(wrong, 50)}
	for _, x := range wrong {
		for _, y := range wrong {
			rows = append(rows, row(x), row(x, y), row(keep(1), x, put("b"), y, drop(1)))
		}
	}
	for _, l := range rows {
		given, as := withRest(l)
		first, is := normal.Of(given), normal.Is(given)
		if second := normal.Of(given); !slices.Equal(first, second) || is != normal.Is(given) {
			t.Errorf("of %s one thing is told first, and another one then", show(l))
		}
		if !slices.Equal(given[:cap(given)], as) {
			t.Errorf("%s was changed", show(l))
		}
	}
}
