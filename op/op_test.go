package op_test

import (
	"fmt"
	"math"
	"slices"
	"strings"
	"testing"

	"epitome/api"
	"epitome/op"
)

// most is the greatest number that an operation may take: 2^20, written out anew.
const most = 1048576

func keep(n int) api.Span { return api.Span{Kind: 1, N: n} }

func put(text string) api.Span { return api.Span{Kind: 2, Text: text} }

func drop(n int) api.Span { return api.Span{Kind: 3, N: n} }

func row(l ...api.Span) []api.Span { return l }

// wrong are spans that may not be, each with its error, and what In and Out tell of it all the same; some are wrong in two ways.
var wrong = []struct {
	s       api.Span
	code    api.Errno
	in, out int
}{
	{api.Span{}, api.ErrKind, 0, 0},
	{api.Span{Kind: 4, N: 7}, api.ErrKind, 0, 0},
	{api.Span{Kind: -1, N: 5, Text: "a"}, api.ErrKind, 0, 0},
	{api.Span{Kind: 0, N: -1, Text: "\xFF"}, api.ErrKind, 0, 0},
	{api.Span{Kind: math.MinInt + 1, N: most + 1}, api.ErrKind, 0, 0},
	{keep(-1), api.ErrSize, -1, -1},
	{keep(most + 1), api.ErrSize, most + 1, most + 1},
	{api.Span{Kind: 1, N: -3, Text: "a"}, api.ErrSize, -3, -3},
	{drop(-2), api.ErrSize, -2, 0},
	{drop(most + 1), api.ErrSize, most + 1, 0},
	{api.Span{Kind: 3, N: 2 * most, Text: "\xFF"}, api.ErrSize, 2 * most, 0},
	{api.Span{Kind: 2, N: 1, Text: "abc"}, api.ErrSize, 0, 3},
	{api.Span{Kind: 2, N: -1, Text: "\xC3"}, api.ErrSize, 0, 0},
	{api.Span{Kind: 1, N: 4, Text: "a"}, api.ErrText, 4, 4},
	{api.Span{Kind: 1, N: 0, Text: "\xFF"}, api.ErrText, 0, 0},
	{api.Span{Kind: 3, N: 6, Text: "ab"}, api.ErrText, 6, 0},
	{put("a\xFF"), api.ErrText, 0, 0},
	{put("\xED\xA0\x80"), api.ErrText, 0, 0},
}

// check holds an operation against what is wanted of it, and asks twice: what was told once must not come to be another thing; what is handed in, and what stands behind it in its memory, stays as it was.
func check(t *testing.T, l []api.Span, code api.Errno, in, out int) {
	t.Helper()
	const behind = 3
	given := make([]api.Span, len(l), len(l)+behind)
	copy(given, l)
	copy(given[len(l):cap(given)], row(keep(11), put("rest"), drop(13)))
	as := slices.Clone(given[:cap(given)])
	for range 2 {
		if got := op.May(given); got != code {
			t.Errorf("May(%s) = %d, want %d", show(l), got, code)
		}
		if got := op.In(given); got != in {
			t.Errorf("In(%s) = %d, want %d", show(l), got, in)
		}
		if got := op.Out(given); got != out {
			t.Errorf("Out(%s) = %d, want %d", show(l), got, out)
		}
	}
	if !slices.Equal(given[:cap(given)], as) {
		t.Errorf("%s was changed", show(l))
	}
}

// show is a row to be read, a long one cut short.
func show(l []api.Span) string {
	var b strings.Builder
	for i, s := range l {
		if i == 8 {
			return b.String() + " ..."
		}
		if len(s.Text) > 20 {
			s.Text = s.Text[:20] + "..."
		}
		fmt.Fprintf(&b, " %+v", s)
	}
	return "[" + b.String() + " ]"
}

// P4.1 and P4.2: no spans at all take and give nothing, and may be.
func TestNoSpans(t *testing.T) {
	check(t, nil, api.OK, 0, 0)
	check(t, row(), api.OK, 0, 0)
	if op.May(nil) != api.OK || op.In(nil) != 0 || op.Out(nil) != 0 {
		t.Error("of nil:", op.May(nil), op.In(nil), op.Out(nil))
	}
}

// P4.1 and P4.2: one span of each kind, the empty ones and the greatest among them.
func TestOneSpan(t *testing.T) {
	for _, n := range []int{0, 1, 2, 255, 256, 65536, most - 1, most} {
		check(t, row(keep(n)), api.OK, n, n)
		check(t, row(drop(n)), api.OK, n, 0)
	}
	for text, n := range map[string]int{"": 0, "x": 1, "abc": 3, "\xC3\xA9a": 2, "\xF0\x9F\x98\x80": 1, "\x00": 1, "\xEF\xBF\xBD": 1} {
		check(t, row(put(text)), api.OK, 0, n)
	}
}

// P4.1 and P4.2: the chapter's example, and others.
func TestOrdinaryOperations(t *testing.T) {
	check(t, row(keep(2), put("x"), drop(1)), api.OK, 3, 3)
	check(t, row(keep(2), put("xy"), drop(1)), api.OK, 3, 4)
	check(t, row(drop(3), put("\xC3\xA9\xE2\x82\xAC"), keep(4)), api.OK, 7, 6)
	check(t, row(put("a"), put("b"), keep(1), keep(1), drop(1), drop(1)), api.OK, 4, 4)
	check(t, row(keep(0), put(""), drop(0)), api.OK, 0, 0)
	check(t, row(drop(5)), api.OK, 5, 0)
	check(t, row(put("abc")), api.OK, 0, 3)
}

// P4.1 and P4.2: rows of up to six spans, the kinds in every order: the span at place i has 2^i, so that each sum tells which spans are in it.
func TestEveryOrderOfKinds(t *testing.T) {
	const longest = 6
	for many, rows := 0, 1; many <= longest; many, rows = many+1, rows*3 {
		for order := range rows {
			l, in, out := row(), 0, 0
			for i := range many {
				n := 1 << i
				switch order % 3 {
				case 0:
					l, in, out = append(l, keep(n)), in+n, out+n
				case 1:
					l, out = append(l, put(strings.Repeat("\xC3\xA9", n))), out+n
				case 2:
					l, in = append(l, drop(n)), in+n
				}
				order /= 3
			}
			check(t, l, api.OK, in, out)
		}
	}
}

// P4.1: rows that have spans that may not be: each adds what span's In and Out tell of it.
func TestSumsOfRowsThatMayNotBe(t *testing.T) {
	for _, x := range wrong {
		check(t, row(x.s), x.code, x.in, x.out)
		check(t, row(x.s, x.s), x.code, 2*x.in, 2*x.out)
		check(t, row(keep(8), x.s, put("ab"), drop(16)), x.code, x.in+24, x.out+10)
		for _, y := range wrong {
			check(t, row(x.s, keep(1), y.s), x.code, x.in+y.in+1, x.out+y.out+1)
		}
	}
}

// P4.1 and R4: sums go round modulo 2^64.
func TestSumsGoRound(t *testing.T) {
	check(t, row(keep(math.MaxInt), keep(1)), api.ErrSize, math.MinInt, math.MinInt)
	check(t, row(keep(math.MaxInt), put("a")), api.ErrSize, math.MaxInt, math.MinInt)
	check(t, row(drop(math.MaxInt), keep(1)), api.ErrSize, math.MinInt, 1)
	check(t, row(keep(math.MinInt), drop(math.MinInt)), api.ErrSize, 0, math.MinInt)
	check(t, row(keep(math.MinInt), keep(math.MinInt)), api.ErrSize, 0, 0)
	check(t, row(drop(math.MinInt), drop(-1)), api.ErrSize, math.MaxInt, 0)
	check(t, row(keep(math.MaxInt), keep(math.MaxInt), keep(5)), api.ErrSize, 3, 3)
}

// P4.2: one span that may not be, first, in the middle, last, and alone.
func TestOneWrongSpan(t *testing.T) {
	ahead := []([]api.Span){nil, row(keep(1)), row(put("a")), row(drop(1)), row(keep(2), put("x"), drop(1)), row(keep(0), put(""), drop(0), keep(7))}
	for _, x := range wrong {
		for _, a := range ahead {
			for _, b := range ahead {
				l := slices.Concat(a, row(x.s), b)
				if got := op.May(l); got != x.code {
					t.Errorf("May(%s) = %d, want %d", show(l), got, x.code)
				}
			}
		}
	}
}

// P4.2: of two wrong spans the one further left is told, in each order, and whatever stands between.
func TestTheFirstWrongSpanIsTold(t *testing.T) {
	between := []([]api.Span){nil, row(keep(1)), row(put("a"), drop(2)), row(keep(most), drop(most))}
	for _, x := range wrong {
		for _, y := range wrong {
			for _, m := range between {
				for _, l := range [][]api.Span{
					slices.Concat(row(x.s), m, row(y.s)),
					slices.Concat(row(keep(3), put("b")), row(x.s), m, row(y.s), row(drop(1))),
				} {
					if got := op.May(l); got != x.code {
						t.Errorf("May(%s) = %d, want %d", show(l), got, x.code)
					}
				}
			}
		}
	}
}

// P4.2: a wrong span is told ahead of ErrBig, wherever it stands, and though what is taken ahead of it is too much already.
func TestAWrongSpanIsToldAheadOfTooMuch(t *testing.T) {
	for _, x := range wrong {
		for _, l := range [][]api.Span{
			row(x.s, keep(most), keep(1)),
			row(keep(most), x.s, drop(1)),
			row(keep(most), drop(1), x.s),
			row(drop(most), drop(most), put("a"), x.s, keep(most)),
		} {
			if got := op.May(l); got != x.code {
				t.Errorf("May(%s) = %d, want %d", show(l), got, x.code)
			}
		}
	}
}

// P4.2: what is taken comes to 2^20, and to one more, by one span and by two.
func TestHowMuchIsTaken(t *testing.T) {
	check(t, row(keep(most)), api.OK, most, most)
	check(t, row(drop(most)), api.OK, most, 0)
	check(t, row(keep(most+1)), api.ErrSize, most+1, most+1)
	check(t, row(drop(most+1)), api.ErrSize, most+1, 0)
	for _, n := range []int{0, 1, 2, most / 2, most - 1, most} {
		m := most - n
		check(t, row(keep(n), keep(m)), api.OK, most, most)
		check(t, row(keep(n), drop(m)), api.OK, most, n)
		check(t, row(drop(n), keep(m)), api.OK, most, m)
		check(t, row(drop(n), drop(m)), api.OK, most, 0)
		if n == 0 {
			continue
		}
		m++
		check(t, row(keep(n), keep(m)), api.ErrBig, most+1, most+1)
		check(t, row(keep(n), drop(m)), api.ErrBig, most+1, n)
		check(t, row(drop(n), keep(m)), api.ErrBig, most+1, m)
		check(t, row(drop(n), drop(m)), api.ErrBig, most+1, 0)
	}
}

// P4.2: what is taken comes to 2^20, and to one more, and to far more, by many spans; cut to 32 bits the last of the sums would be 0.
func TestHowMuchManySpansTake(t *testing.T) {
	for _, x := range []struct {
		s   api.Span
		out int
	}{{keep(1), most}, {drop(1), 0}} {
		l := slices.Repeat(row(x.s), most)
		check(t, l, api.OK, most, x.out)
		check(t, append(l, keep(0), put(""), drop(0)), api.OK, most, x.out)
		check(t, append(l, drop(1)), api.ErrBig, most+1, x.out)
		check(t, append(l, keep(1)), api.ErrBig, most+1, x.out+1)
	}
	pairs := slices.Repeat(row(keep(3), put("ab"), drop(1)), most/4)
	check(t, pairs, api.OK, most, most/4*5)
	check(t, append(pairs, drop(1)), api.ErrBig, most+1, most/4*5)
	check(t, append(row(keep(1)), pairs...), api.ErrBig, most+1, most/4*5+1)
	check(t, slices.Repeat(row(keep(most)), 2), api.ErrBig, 2*most, 2*most)
	check(t, slices.Repeat(row(keep(most)), 2048), api.ErrBig, 1<<31, 1<<31)
	check(t, slices.Repeat(row(keep(most)), 4096), api.ErrBig, 1<<32, 1<<32)
	check(t, slices.Repeat(row(drop(most)), 4096), api.ErrBig, 1<<32, 0)
}

// P4.2: what is given does not matter: neither much of it makes an operation too long, nor little of it makes up for what is taken.
func TestHowMuchIsGivenDoesNotMatter(t *testing.T) {
	long := strings.Repeat("\xC3\xA9", most)
	check(t, row(put(long)), api.OK, 0, most)
	check(t, row(put(long), put("a")), api.OK, 0, most+1)
	check(t, row(put(long+"a")), api.OK, 0, most+1)
	check(t, row(put(long), put(long), put(long)), api.OK, 0, 3*most)
	check(t, row(keep(most), put("x")), api.OK, most, most+1)
	check(t, row(put("x"), keep(most)), api.OK, most, most+1)
	check(t, row(keep(most), put(long)), api.OK, most, 2*most)
	check(t, row(put(long), drop(most), put(long)), api.OK, most, 2*most)
	check(t, row(keep(most), put(long), drop(1)), api.ErrBig, most+1, 2*most)
	check(t, row(drop(most), put("x"), drop(1)), api.ErrBig, most+1, 1)
	check(t, row(put(long), drop(1), drop(most)), api.ErrBig, most+1, most)
}

func checkKeep(t *testing.T, n int, code api.Errno, want ...api.Span) {
	t.Helper()
	if got, e := op.Keep(n); e != code || !slices.Equal(got, want) {
		t.Errorf("Keep(%d) = %s, %d, want %s, %d", n, show(got), e, show(want), code)
	}
}

// P4.3: numbers that may be kept: no span of 0, one of each other.
func TestKeep(t *testing.T) {
	checkKeep(t, 0, api.OK)
	for _, n := range []int{1, 2, 3, 255, 256, 512, 513, 65535, 65536, most - 1, most} {
		checkKeep(t, n, api.OK, keep(n))
	}
	for n := 1; n < 5000; n++ {
		checkKeep(t, n, api.OK, keep(n))
	}
}

// P4.3: numbers that may not be kept; cut to fewer bits, or without their sign, some could be taken for others.
func TestKeepOutOfBounds(t *testing.T) {
	for _, n := range []int{
		-1, -2, -most, -most - 1, math.MinInt32, math.MinInt + 1, math.MinInt,
		most + 1, most + 2, 2 * most, 1<<28 - 1, math.MaxInt32, 1 << 32, 1<<32 + 1, math.MaxInt - 1, math.MaxInt,
	} {
		checkKeep(t, n, api.ErrSize)
	}
}

// P4.3 with P4.1 and P4.2: what Keep tells may be, and takes and gives n.
func TestWhatKeepTellsMayBe(t *testing.T) {
	for _, n := range []int{0, 1, 2, 1000, most - 1, most} {
		l, _ := op.Keep(n)
		check(t, l, api.OK, n, n)
	}
}

// P4.3 and R7: what Keep tells is the caller's own.
func TestWhatKeepTellsIsTheCallersOwn(t *testing.T) {
	for _, n := range []int{0, 1, most} {
		first, _ := op.Keep(n)
		second, _ := op.Keep(n)
		was := slices.Clone(second)
		first = first[:cap(first)]
		for i := range first {
			first[i] = drop(9)
		}
		if !slices.Equal(second, was) {
			t.Errorf("Keep(%d) tells one memory twice", n)
		}
		if n == 0 {
			checkKeep(t, n, api.OK)
		} else {
			checkKeep(t, n, api.OK, keep(n))
		}
	}
}
