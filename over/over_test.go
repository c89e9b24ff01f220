package over_test

import (
	"fmt"
	"math"
	"math/rand"
	"slices"
	"strconv"
	"strings"
	"testing"

	"epitome/api"
	"epitome/apply"
	"epitome/compose"
	"epitome/normal"
	"epitome/op"
	"epitome/over"
	"epitome/place"
)

// most is the greatest number that an operation may take: 2^20, written out anew.
const most = 1048576

func keep(n int) api.Span { return api.Span{Kind: 1, N: n} }

func put(text string) api.Span { return api.Span{Kind: 2, Text: text} }

func drop(n int) api.Span { return api.Span{Kind: 3, N: n} }

func row(l ...api.Span) []api.Span { return l }

// empties are the empty spans, one of each kind.
var empties = row(keep(0), put(""), drop(0))

// read is an operation that is written down: k and a number keep so many, d and a number drop so many, + and a text put that.
func read(s string) []api.Span {
	var l []api.Span
	for _, word := range strings.Fields(s) {
		n, _ := strconv.Atoi(word[1:])
		switch word[0] {
		case 'k':
			l = append(l, keep(n))
		case 'd':
			l = append(l, drop(n))
		case '+':
			l = append(l, put(word[1:]))
		}
	}
	return l
}

// points are code points of one, two, three and four bytes; U+FFFD, U+0000 and one that stands on the one ahead are among them.
var points = []string{"a", "\xC3\xA9", "\xE2\x82\xAC", "\xF0\x9F\x98\x80", "\x00", "\xEF\xBF\xBD", "\xCC\x81", "\xF4\x8F\xBF\xBF", "\x7F", "\xED\x9F\xBF"}

// wrong are spans that may not be, each with its error.
var wrong = []struct {
	s    api.Span
	code api.Errno
}{
	{api.Span{}, api.ErrKind},
	{api.Span{Kind: 4, N: 7}, api.ErrKind},
	{api.Span{Kind: -1, N: 5, Text: "a"}, api.ErrKind},
	{api.Span{Kind: math.MinInt, N: math.MaxInt, Text: "\xFF"}, api.ErrKind},
	{keep(-1), api.ErrSize},
	{keep(most + 1), api.ErrSize},
	{keep(math.MaxInt), api.ErrSize},
	{drop(-2), api.ErrSize},
	{drop(most + 1), api.ErrSize},
	{drop(math.MinInt), api.ErrSize},
	{api.Span{Kind: 1, N: -3, Text: "a"}, api.ErrSize},
	{api.Span{Kind: 2, N: 1, Text: "abc"}, api.ErrSize},
	{api.Span{Kind: 2, N: -1, Text: "\xC3"}, api.ErrSize},
	{api.Span{Kind: 1, N: 1, Text: "a"}, api.ErrText},
	{api.Span{Kind: 3, N: 1, Text: "ab"}, api.ErrText},
	{api.Span{Kind: 1, Text: "\xFF"}, api.ErrText},
	{put("a\xFF"), api.ErrText},
	{put("\xED\xA0\x80"), api.ErrText},
}

// show is a row to be read, with no more than the beginnings of its texts.
func show(l []api.Span) string {
	short := slices.Clone(l[:min(len(l), 12)])
	for i := range short {
		short[i].Text = short[i].Text[:min(len(short[i].Text), 20)]
	}
	return fmt.Sprintf("%d: %+q", len(l), fmt.Sprint(short))
}

// withRest is l in a memory that goes on behind it, and that memory as it is.
func withRest(l []api.Span) (given, as []api.Span) {
	const behind = 3
	given = make([]api.Span, len(l), len(l)+behind)
	copy(given, l)
	copy(given[len(l):cap(given)], row(keep(11), put("rest"), drop(13)))
	return given, slices.Clone(given[:cap(given)])
}

// ask holds what Of tells against what is wanted of it. It asks twice: what was told once must not come to be another thing; what was handed in, and what stands behind it in its memory, stays as it was.
func ask(t *testing.T, a, s, want []api.Span, code api.Errno) {
	t.Helper()
	x, asX := withRest(a)
	y, asY := withRest(s)
	for range 2 {
		if got, e := over.Of(x, y); !slices.Equal(got, want) || e != code {
			t.Errorf("Of(%s, %s) = %s, %d, want %s, %d", show(a), show(s), show(got), e, show(want), code)
		}
	}
	if !slices.Equal(x[:cap(x)], asX) || !slices.Equal(y[:cap(y)], asY) {
		t.Errorf("Of changed %s or %s", show(a), show(s))
	}
}

// check holds two operations, and their shortest forms, against what the first one is behind the second one: it is in its shortest form, and takes what the second one gives.
func check(t *testing.T, a, s, want []api.Span) {
	t.Helper()
	if !normal.Is(want) || op.In(want) != op.Out(s) || op.In(a) != op.In(s) {
		t.Fatalf("what is wanted of %s behind %s is wrong: %s", show(a), show(s), show(want))
	}
	for _, x := range [][]api.Span{a, normal.Of(a)} {
		for _, y := range [][]api.Span{s, normal.Of(s)} {
			ask(t, x, y, want, api.OK)
		}
	}
}

// checkFails holds two operations to the error of theirs; with the error nothing else is told.
func checkFails(t *testing.T, a, s []api.Span, code api.Errno) {
	t.Helper()
	ask(t, a, s, nil, code)
}

// places is an operation by its places: what becomes of each code point that it takes, and what is put in each gap, a code point each.
type places struct {
	put  [][]string
	gone []bool
}

func placesOf(l []api.Span) places {
	p := places{put: make([][]string, 1)}
	for _, s := range l {
		for range s.N {
			p.put, p.gone = append(p.put, nil), append(p.gone, s.Kind == 3)
		}
		last := len(p.put) - 1
		p.put[last] = append(p.put[last], strings.Split(s.Text, "")...)
	}
	return p
}

// where tells of each gap how many code points are given by all that is put up to there, and by the code points ahead that are not dropped.
func (p places) where() []int {
	var where []int
	given := 0
	for gap, texts := range p.put {
		if gap > 0 && !p.gone[gap-1] {
			given++
		}
		given += len(texts)
		where = append(where, given)
	}
	return where
}

// spans is the shortest operation of these places.
func (p places) spans() []api.Span {
	var l []api.Span
	last := func(kind int) *api.Span {
		if len(l) == 0 || l[len(l)-1].Kind != kind {
			l = append(l, api.Span{Kind: kind})
		}
		return &l[len(l)-1]
	}
	for gap, texts := range p.put {
		for _, text := range texts {
			last(2).Text += text
		}
		if gap == len(p.gone) {
			return l
		}
		if p.gone[gap] {
			last(3).N++
		} else {
			last(1).N++
		}
	}
	return l
}

// byWord is what the first of two operations is behind the second one, by the chapter's own words, place by place.
func byWord(a, s []api.Span) []api.Span {
	does, first := placesOf(a), placesOf(s)
	behind := places{put: make([][]string, op.Out(s)+1), gone: make([]bool, op.Out(s))}
	for gap, at := range first.where() {
		behind.put[at] = append(behind.put[at], does.put[gap]...)
		// The code point behind the gap stands behind all that is put there.
		if gap < len(first.gone) && !first.gone[gap] {
			behind.gone[at] = does.gone[gap]
		}
	}
	return behind.spans()
}

// checkWord holds two operations against the chapter's own words.
func checkWord(t *testing.T, a, s []api.Span) {
	t.Helper()
	check(t, a, s, byWord(a, s))
}

// checkBoth holds two operations against what is wanted by hand, and that against the chapter's own words.
func checkBoth(t *testing.T, a, s, want []api.Span) {
	t.Helper()
	if w := byWord(a, s); !slices.Equal(w, want) {
		t.Errorf("%s behind %s is %s by the words, and %s by hand", show(a), show(s), show(w), show(want))
	}
	check(t, a, s, want)
}

// checkAll holds rows of two operations, and of what the first one is behind the second one, that are written down.
func checkAll(t *testing.T, l [][3]string) {
	t.Helper()
	for _, x := range l {
		checkBoth(t, read(x[0]), read(x[1]), read(x[2]))
	}
}

// P11.1: the chapter's examples.
func TestExamples(t *testing.T) {
	checkAll(t, [][3]string{
		{"k1 +y k2", "k1 d1 +x k1", "k1 +y k2"},
		{"k1 +y k2", "k1 +x d1 k1", "k2 +y k1"},
	})
}

// P11.1: of operations of no spans.
func TestNoSpans(t *testing.T) {
	for _, none := range [][]api.Span{nil, row()} {
		for _, other := range [][]api.Span{nil, row()} {
			checkBoth(t, none, other, nil)
		}
		checkBoth(t, row(put("x")), none, row(put("x")))
		checkBoth(t, none, row(put("x")), row(keep(1)))
	}
}

// P11.1: of each code point that s keeps it does what a does, and nothing of those that s drops.
func TestOneCodePoint(t *testing.T) {
	checkAll(t, [][3]string{
		{"k1", "k1", "k1"},
		{"d1", "k1", "d1"},
		{"k1", "d1", ""},
		{"d1", "d1", ""},
		{"d1 k1", "k1 d1", "d1"},
		{"d1 k1", "d1 k1", "k1"},
		{"k1 d1", "k1 d1", "k1"},
		{"k1 d1", "d1 k1", "d1"},
		{"d3", "k1 d1 k1", "d2"},
		{"k3", "k1 d1 k1", "k2"},
		{"k1 d1 k1", "d1 k1 d1", "d1"},
		{"k1 d1 k1", "k1 d1 k1", "k2"},
		{"d1 k1 d1", "k1 d1 k1", "d2"},
		{"k2 d3 k4", "k3 d3 k3", "k2 d1 k3"},
		{"k2 d5 k2", "k4 d1 k4", "k2 d4 k2"},
		{"k4 d1 k4", "k2 d5 k2", "k4"},
		{"d2 k5 d2", "d1 k7 d1", "d1 k5 d1"},
	})
}

// P11.1: all that s puts is kept, be it among what a drops, keeps, or puts.
func TestWhatIsPutFirstIsKept(t *testing.T) {
	checkAll(t, [][3]string{
		{"", "+xyz", "k3"},
		{"k1", "+x k1 +y", "k3"},
		{"d1", "+x k1 +y", "k1 d1 k1"},
		{"d1", "+x d1 +y", "k2"},
		{"d3", "k1 +x k2", "d1 k1 d2"},
		{"d3", "k1 +xy k1 +z k1", "d1 k2 d1 k1 d1"},
		{"d2", "+x k2", "k1 d2"},
		{"d2", "k2 +x", "d2 k1"},
		{"d2", "d1 +x k1", "k1 d1"},
		{"d2", "k1 +x d1", "d1 k1"},
		{"k1 d1 k1", "k1 +x k1 +y k1", "k2 d1 k2"},
		{"d1 +w d1", "+x k1 +y k1 +z", "k1 d1 k1 +w d1 k1"},
	})
}

// P11.1: where both put something in one gap, that of s stands ahead: at the beginning, in the middle, at the end.
func TestBothPutInOneGap(t *testing.T) {
	checkAll(t, [][3]string{
		{"+a", "+x", "k1 +a"},
		{"+ab", "+xyz", "k3 +ab"},
		{"+a k1", "+x k1", "k1 +a k1"},
		{"k1 +a", "k1 +x", "k2 +a"},
		{"k1 +a k1", "k1 +x k1", "k2 +a k1"},
		{"+a d1", "+x k1", "k1 +a d1"},
		{"+a d1", "+x d1", "k1 +a"},
		{"+a k1", "+x d1", "k1 +a"},
		{"d1 +a", "k1 +x", "d1 k1 +a"},
		{"d1 +a", "d1 +x", "k1 +a"},
		{"k1 +a", "d1 +x", "k1 +a"},
		{"k1 +a d1 k1", "k1 +x d1 k1", "k2 +a k1"},
		{"+a k1 +b k1 +c", "+x k1 +yy k1 +zzz", "k1 +a k3 +b k4 +c"},
	})
}

// P11.1: what a puts right ahead of, or right behind, what s puts, with a code point between that is kept or dropped.
func TestNextToWhatIsPutFirst(t *testing.T) {
	checkAll(t, [][3]string{
		{"+a k1", "k1 +x", "+a k2"},
		{"k1 +a", "+x k1", "k2 +a"},
		{"+a k1", "d1 +x", "+a k1"},
		{"k1 +a", "+x d1", "k1 +a"},
		{"+a d1", "k1 +x", "+a d1 k1"},
		{"d1 +a", "+x k1", "k1 d1 +a"},
		{"+a d1", "d1 +x", "+a k1"},
		{"d1 +a", "+x d1", "k1 +a"},
		// s puts ahead of, between and behind what it drops.
		{"k1 +a k1 +b k1 +c k1", "k1 +x d1 +y d1 +z k1", "k2 +a k1 +b k1 +c k1"},
		{"k1 +a k1 +b k1 +c k1", "k1 d1 +y d1 k1", "k1 +a k1 +bc k1"},
		{"k1 +a k1 +b k1 +c k1", "k1 d2 +z k1", "k1 +ab k1 +c k1"},
		{"k1 +a k1 +b k1 +c k1", "k1 +x d2 k1", "k2 +abc k1"},
		// And so does a.
		{"k1 +a d1 +b d1 +c k1", "k1 +x k2 k1", "k2 +a d1 +b d1 +c k1"},
		{"k1 +a d1 +b d1 +c k1", "k2 +y k2", "k1 +a d1 k1 +b d1 +c k1"},
		{"k1 +a d1 +b d1 +c k1", "k1 d1 +y k2", "k1 +a k1 +b d1 +c k1"},
		{"k1 +a d1 +b d1 +c k1", "k2 +y d1 k1", "k1 +a d1 k1 +bc k1"},
	})
}

// P11.1: what a puts in several gaps that come to be one is put in their order.
func TestGapsThatComeToBeOne(t *testing.T) {
	checkAll(t, [][3]string{
		{"+a k1 +b", "d1", "+ab"},
		{"+a d1 +b", "d1", "+ab"},
		{"+a k1 +b k1 +c", "d2", "+abc"},
		{"+c d1 +b k1 +a", "d2", "+cba"},
		{"+a k1 +b k1 +c", "+x d2", "k1 +abc"},
		{"+a k1 +b k1 +c", "d1 +x d1", "+a k1 +bc"},
		{"+a k1 +b k1 +c", "d2 +x", "+ab k1 +c"},
		{"+a k1 +b k1 +c", "+x d1 +y d1 +z", "k1 +a k1 +b k1 +c"},
		{"k1 +a k1 +b k1", "k1 d1 k1", "k1 +ab k1"},
		{"d1 +a d1 +b d1", "k1 d1 k1", "d1 +ab d1"},
		{"+a k1 +b k1 +c k1 +d", "d1 k1 d1", "+ab k1 +cd"},
		{"+a k2 +b k2 +c", "k1 d2 k1", "+a k1 +b k1 +c"},
	})
}

// P11.1: what a puts in a gap is put in the gap that place.Where of s tells of it, for every gap.
func TestWhereAGapComesToBe(t *testing.T) {
	for _, first := range samples {
		s := read(first)
		in, out := op.In(s), op.Out(s)
		for gap := range in + 1 {
			at, e := place.Where(s, gap)
			if e != api.OK {
				t.Fatalf("Where(%s, %d) tells %d", show(s), gap, e)
			}
			want := normal.Of(row(keep(at), put("new"), keep(out-at)))
			checkBoth(t, row(keep(gap), put("new"), keep(in-gap)), s, want)
			checkBoth(t, row(keep(gap), put("ne"), keep(0), put("w"), keep(in-gap)), s, want)
		}
	}
}

// samples are operations, each to be put behind others and ahead of them.
var samples = []string{
	"", "k3", "d2", "+xy", "+x k1", "k1 +x", "d1 +x", "+x d1", "k1 d1 k1", "k1 +x d1 k2", "k1 d1 +x k2", "+p d1 +q d1 +r",
	"k2 +\xC3\xA9a d1 k1 d4 +\xF0\x9F\x98\x80 k3", "d1 +x k1 +yz d2 +w k1 +v",
}

// each is so many spans of one code point, or one of so many.
func each(n int, cut bool, span func(int) api.Span) []api.Span {
	if cut {
		return slices.Repeat(row(span(1)), n)
	}
	return row(span(n))
}

// P11.1: behind one that keeps all an operation is its own shortest form; and one that keeps all keeps all that is given.
func TestAllIsKept(t *testing.T) {
	for _, x := range samples {
		l := read(x)
		for _, cut := range []bool{false, true} {
			all := each(op.In(l), cut, keep)
			checkBoth(t, l, all, normal.Of(l))
			checkBoth(t, slices.Concat(empties, l, empties), all, normal.Of(l))
			checkBoth(t, all, l, normal.Of(row(keep(op.Out(l)))))
		}
	}
}

// puts is all that an operation puts, in its order.
func puts(l []api.Span) string {
	text := ""
	for _, s := range l {
		text += s.Text
	}
	return text
}

// P11.1: behind one that drops all nothing is left but what is put; and of one that drops all, what the other one kept.
func TestAllIsDropped(t *testing.T) {
	for _, x := range samples {
		l := read(x)
		n := op.In(l)
		for _, cut := range []bool{false, true} {
			all := each(n, cut, drop)
			checkBoth(t, l, all, normal.Of(row(put(puts(l)))))
			checkBoth(t, l, slices.Concat(row(put("new")), all), normal.Of(row(keep(3), put(puts(l)))))
			checkBoth(t, slices.Concat(all, row(put("new"))), each(n, cut, drop), row(put("new")))
			var want []api.Span
			for _, s := range l {
				switch s.Kind {
				case 1:
					want = append(want, drop(s.N))
				case 2:
					want = append(want, keep(op.Out(row(s))))
				}
			}
			checkBoth(t, all, l, normal.Of(want))
		}
	}
}

// P11.1: behind one that only puts, and of one that only puts.
func TestOnlyPuts(t *testing.T) {
	checkAll(t, [][3]string{
		{"+a", "+x", "k1 +a"},
		{"+a +b", "+x +y", "k2 +ab"},
		{"", "+x +y", "k2"},
		{"+a +b", "", "+ab"},
		{"k2", "+x k1 +y k1 +z", "k5"},
		{"d2", "+x k1 +y k1 +z", "k1 d1 k1 d1 k1"},
		{"+a k1 +b k1 +c", "+x k2", "k1 +a k1 +b k1 +c"},
		{"+a k1 +b k1 +c", "+x k1 +y k1 +z", "k1 +a k2 +b k2 +c"},
		{"+a d1 +b d1 +c", "+x k1 +y k1 +z", "k1 +a d1 k1 +b d1 k1 +c"},
	})
}

// P11.1: code points of what s puts are counted, not bytes, and texts that a puts stay whole.
func TestCodePointsAreCounted(t *testing.T) {
	all := strings.Join(points, "")
	n := len(points)
	checkBoth(t, row(put(all)), row(put(all)), row(keep(n), put(all)))
	checkBoth(t, row(drop(1), put(all), keep(1)), row(keep(1), put(all), keep(1)), row(drop(1), keep(n), put(all), keep(1)))
	for _, p := range points {
		checkBoth(t, row(put(p), keep(1)), row(put(p), keep(1)), row(keep(1), put(p), keep(1)))
		checkBoth(t, row(drop(2)), row(keep(1), put(p), keep(1)), row(drop(1), keep(1), drop(1)))
		checkBoth(t, row(keep(1), put(p), drop(1)), row(put(all+p), drop(1), keep(1)), row(keep(n+1), put(p), drop(1)))
		for _, q := range points {
			checkBoth(t, row(put(p), keep(1), put(q)), row(put(q+p), drop(1), put(q)), row(keep(2), put(p), keep(1), put(q)))
			checkBoth(t, row(put(p), keep(1), put(q)), row(put(q+p), drop(1)), row(keep(2), put(p+q)))
		}
	}
}

// pairs are operations on one text.
var pairs = [][2]string{
	{"", ""},
	{"+a", "+x"},
	{"k3", "k1 d1 k1"},
	{"d2", "k1 +x k1"},
	{"k1 +y k2", "k1 +x d1 k1"},
	{"d1 +y d1", "d1 +x d1"},
	{"+a k1 +b k1 +c", "d2"},
	{"k2 d1 +x k1", "k1 d1 k2"},
	{"k2 +\xC3\xA9a\xE2\x82\xAC d1 k1 d4 +y k3", "+p k1 d2 +\xF0\x9F\x98\x80 k1 d2 k2 +q d2 k1 +r"},
}

// P11.1: empty spans of each kind, one and some, at each place of either operation, change nothing.
func TestEmptySpansChangeNothing(t *testing.T) {
	for _, x := range pairs {
		a, s := read(x[0]), read(x[1])
		want := byWord(a, s)
		for _, some := range [][]api.Span{empties[:1], empties[1:2], empties[2:], empties, slices.Repeat(empties, 2)} {
			for i := range len(a) + 1 {
				with := slices.Insert(slices.Clone(a), i, some...)
				checkBoth(t, with, s, want)
				for j := range len(s) + 1 {
					checkBoth(t, with, slices.Insert(slices.Clone(s), j, some...), want)
				}
			}
			for j := range len(s) + 1 {
				checkBoth(t, a, slices.Insert(slices.Clone(s), j, some...), want)
			}
		}
	}
	for _, x := range empties {
		for _, y := range empties {
			checkBoth(t, row(x), row(y), nil)
			checkBoth(t, row(x, drop(1), x, put("a"), x), row(y, put("x"), y, keep(1), y), read("k1 d1 +a"))
		}
	}
}

// cut is an operation in spans of no more than n code points each.
func cut(l []api.Span, n int) []api.Span {
	var pieces []api.Span
	for _, s := range l {
		for s.N > n {
			pieces = append(pieces, api.Span{Kind: s.Kind, N: n})
			s.N -= n
		}
		texts := strings.Split(s.Text, "")
		for len(texts) > n {
			pieces = append(pieces, put(strings.Join(texts[:n], "")))
			texts = texts[n:]
		}
		s.Text = strings.Join(texts, "")
		pieces = append(pieces, s)
	}
	return pieces
}

// P11.1: spans of one kind side by side, cut at unlike places in both operations, come to the same.
func TestSpansAreCutAtUnlikePlaces(t *testing.T) {
	long := row(keep(20), put(strings.Join(points, "")+"0123456789abc"), drop(11), keep(7), drop(2), put("opqrstuvwxyz"), keep(9))
	for _, x := range [][2][]api.Span{
		{long, read("k13 d9 +ABCDEFGH k12 d13 +IJKLM k2")},
		{read("k13 d9 +ABCDEFGH k12 d13 +IJKLM k2"), long},
		{long, read("d25 +ABC k3 d19 k1 +DEF k1 +GH")},
		{read("d25 +ABC k3 d19 k1 +DEF k1 +GH"), long},
		{long, row(keep(49))},
		{long, row(drop(49))},
		{row(drop(49)), long},
	} {
		want := byWord(x[0], x[1])
		for n := 1; n <= 26; n++ {
			for _, m := range []int{1, 2, 3, 4, 5, 7, 10, 13, 100} {
				check(t, cut(x[0], n), cut(x[1], m), want)
			}
		}
	}
}

// around are spans of which each stands next to wrong ones; all of them may be.
var around = [][]api.Span{nil, row(keep(1)), row(put("a")), row(drop(1)), empties, row(keep(2), put("x"), drop(1))}

// P11.1: op's error of a span that may not be, in a or in s, alone, and first, in the middle and last of others.
func TestOneWrongSpan(t *testing.T) {
	for _, x := range wrong {
		for _, l := range around {
			for _, m := range around {
				bad := slices.Concat(l, row(x.s), m)
				as := row(keep(max(op.In(bad), 0) % (most + 1)))
				checkFails(t, bad, nil, x.code)
				checkFails(t, bad, as, x.code)
				checkFails(t, nil, bad, x.code)
				checkFails(t, as, bad, x.code)
				checkFails(t, bad, bad, x.code)
			}
		}
	}
	checkFails(t, row(put("\xC3"), put("\xA9")), nil, api.ErrText)
	checkFails(t, nil, row(put("\xC3"), put("\xA9")), api.ErrText)
}

// P11.1: of several errors that of a comes first, and in an operation the one further left; and both ahead of lengths that are not the same.
func TestTheFirstErrorIsTold(t *testing.T) {
	tooMuch := row(keep(most), drop(1))
	for _, x := range wrong {
		for _, y := range wrong {
			checkFails(t, row(x.s), row(y.s), x.code)
			checkFails(t, row(keep(3), x.s), row(put("b"), y.s, keep(3)), x.code)
			checkFails(t, row(keep(3), x.s, drop(2), y.s), row(keep(3)), x.code)
			checkFails(t, row(keep(3)), row(keep(3), x.s, drop(2), y.s), x.code)
		}
		checkFails(t, tooMuch, row(x.s), api.ErrBig)
		checkFails(t, row(x.s), tooMuch, x.code)
		checkFails(t, row(keep(most), drop(1), x.s), row(keep(most)), x.code)
		checkFails(t, row(keep(most)), row(keep(most), drop(1), x.s), x.code)
		// And the lengths are not the same, either.
		checkFails(t, row(x.s, keep(5)), row(keep(77)), x.code)
		checkFails(t, row(keep(77)), row(x.s, keep(5)), x.code)
	}
}

// P11.1: what takes more than 2^20 is too big, in a and in s, whether the other one takes as much or not.
func TestTooMuchIsTaken(t *testing.T) {
	for _, l := range [][]api.Span{
		row(keep(most), keep(1)), row(drop(most), drop(1)), row(keep(1), drop(most)), row(drop(most), keep(most)),
		row(put("x"), keep(most-1), put("y"), drop(2), put("z")),
		slices.Repeat(row(drop(most)), 4096),
	} {
		for _, other := range [][]api.Span{nil, row(keep(1)), row(keep(most)), row(put("x"), drop(1)), l} {
			checkFails(t, l, other, api.ErrBig)
			checkFails(t, other, l, api.ErrBig)
		}
	}
}

// P11.1: lengths that are not the same, one too few and one too many; what is given does not matter.
func TestLengthsThatAreNotTheSame(t *testing.T) {
	for _, x := range samples {
		l := read(x)
		in, out := op.In(l), op.Out(l)
		for _, kind := range []func(int) api.Span{keep, drop} {
			others := [][]api.Span{
				row(kind(in + 1)), row(kind(in), kind(most-in)), row(kind(in), put("x"), kind(1)),
				row(kind(in+1), put(strings.Repeat("x", out))),
			}
			if in > 0 {
				others = append(others, nil, row(kind(in-1)), row(kind(in-1), put("\xC3\xA9")), row(put(strings.Repeat("x", in))))
			}
			if out != in {
				others = append(others, row(kind(out)))
			}
			for _, other := range others {
				checkFails(t, l, other, api.ErrLen)
				checkFails(t, other, l, api.ErrLen)
			}
		}
	}
	checkFails(t, row(keep(most)), row(drop(most-1)), api.ErrLen)
	checkFails(t, row(drop(most-1)), row(keep(most)), api.ErrLen)
}

// made is what Of tells of two operations of which the test knows that they may be.
func made(t *testing.T, a, s []api.Span) []api.Span {
	t.Helper()
	l, e := over.Of(a, s)
	if e != api.OK || !normal.Is(l) {
		t.Fatalf("Of(%s, %s) = %s, %d", show(a), show(s), show(l), e)
	}
	return l
}

// given is what an operation, of which the test knows that it fits, makes of a text.
func given(t *testing.T, l []api.Span, text string) string {
	t.Helper()
	s, e := apply.To(l, text)
	if e != api.OK {
		t.Fatalf("To(%s, %+q) tells %d", show(l), text, e)
	}
	return s
}

// left is what stands, of the code points that are there first, and of what both put, behind both operations.
func left(a, s []api.Span, text string) string {
	does, first := placesOf(a), placesOf(s)
	all := ""
	for gap := range first.put {
		all += strings.Join(first.put[gap], "") + strings.Join(does.put[gap], "")
		if gap < len(first.gone) && !first.gone[gap] && !does.gone[gap] {
			all += strings.Split(text, "")[gap]
		}
	}
	return all
}

// checkText holds two operations to what comes of a text behind both.
func checkText(t *testing.T, a, s []api.Span, text string) {
	t.Helper()
	if got, want := given(t, made(t, a, s), given(t, s, text)), left(a, s, text); got != want {
		t.Errorf("of %+q, %s and behind it %s give %+q, want %+q", text, show(s), show(a), got, want)
	}
}

// short are all operations of so many code points, each kept or dropped by a span of its own, in which so many texts stand anywhere between these: letters from that one on, every other one behind another code point.
func short(takes, puts int, letter byte) [][]api.Span {
	if takes == 0 && puts == 0 {
		return [][]api.Span{nil}
	}
	var all [][]api.Span
	add := func(s api.Span, l [][]api.Span) {
		for _, x := range l {
			all = append(all, append(row(s), x...))
		}
	}
	if takes > 0 {
		add(keep(1), short(takes-1, puts, letter))
		add(drop(1), short(takes-1, puts, letter))
	}
	if puts > 0 {
		text := string(rune(letter))
		if puts%2 == 0 {
			text = "\xC3\xA9" + text
		}
		add(put(text), short(takes, puts-1, letter+1))
	}
	return all
}

// upTo are all that short tells of so many texts, and fewer.
func upTo(takes, puts int, letter byte) [][]api.Span {
	var all [][]api.Span
	for n := range puts + 1 {
		all = append(all, short(takes, n, letter)...)
	}
	return all
}

// P11.1: all short operations of a short text, behind all short ones: against the chapter's own words, and what comes of a text.
func TestAllShortOnes(t *testing.T) {
	const text = "\xE2\x82\xAC12"
	for takes := range 4 {
		short := strings.Join(strings.Split(text, "")[:takes], "")
		firsts := upTo(takes, 2, 'A')
		for _, a := range upTo(takes, 2, 'p') {
			for _, s := range firsts {
				checkWord(t, a, s)
				checkText(t, a, s, short)
				if t.Failed() {
					return
				}
			}
		}
	}
}

// checkStep holds an operation to P11.2: behind two others it is the same one by one, and behind the one that they come to.
func checkStep(t *testing.T, a, s, then []api.Span) {
	t.Helper()
	both, e := compose.Of(s, then)
	if e != api.OK {
		t.Fatalf("%s does not stand behind %s: %d", show(then), show(s), e)
	}
	step, once := made(t, made(t, a, s), then), made(t, a, both)
	if !slices.Equal(step, once) {
		t.Fatalf("%s behind %s and %s is %s, and behind both as one %s", show(a), show(s), show(then), show(step), show(once))
	}
}

// P11.2: what is put and then dropped again, what is put at a place at which something is dropped, ahead of that and behind it, and what is dropped by both.
func TestTwoStepsByHand(t *testing.T) {
	for _, x := range [][4]string{
		{"k1 +a k2", "k1 +x k2", "k1 d1 k2", "k1 +a k2"},
		{"k1 +a k2", "k2 +x k1", "k1 d1 k2", "k1 +a k2"},
		{"k2 +a k1", "k2 +x k1", "k1 d1 k2", "k2 +a k1"},
		{"k1 +a k2", "k1 d1 k1", "k1 +x k1", "k2 +a k1"},
		{"k2 +a k1", "k1 d1 k1", "k1 +x k1", "k2 +a k1"},
		{"+a d2 +b", "d1 k1", "+x d1", "k1 +ab"},
		{"+a k1 +b k1 +c", "d1 +x d1", "d1", "+abc"},
		{"+a k1 +b k1 +c", "d1 +x d1", "+y k1", "k1 +a k1 +bc"},
		{"+a k1 +b k1 +c", "d1 +x d1", "k1 +y", "+a k2 +bc"},
		{"+a k1 +b k1 +c", "d2", "+y", "k1 +abc"},
	} {
		a, s, then, want := read(x[0]), read(x[1]), read(x[2]), read(x[3])
		checkBoth(t, made(t, a, s), then, want)
		checkStep(t, a, s, then)
	}
}

// P11.2: all short operations behind all short ones, and all short ones behind these.
func TestTwoSteps(t *testing.T) {
	for _, puts := range [][3]int{{1, 1, 1}, {2, 1, 1}, {1, 2, 1}, {1, 1, 2}} {
		for takes := range 3 {
			for _, s := range upTo(takes, puts[1], 'A') {
				for _, then := range upTo(op.Out(s), puts[2], '0') {
					for _, a := range upTo(takes, puts[0], 'p') {
						checkStep(t, a, s, then)
					}
				}
			}
		}
	}
}

// anyOf is an operation that takes n, of the numbers that r tells, which are the same ones each time.
func anyOf(r *rand.Rand, n int) []api.Span {
	var l []api.Span
	for n > 0 || r.Intn(3) > 0 {
		many := min(r.Intn(6), n)
		switch r.Intn(4) {
		case 0:
			l = append(l, keep(many))
		case 1:
			l = append(l, drop(many))
		case 2:
			n += many
			text := ""
			for range r.Intn(5) {
				text += points[r.Intn(len(points))] + string(rune('A'+r.Intn(26)))
			}
			l = append(l, put(text))
		default:
			l = append(l, empties[r.Intn(3)])
			n += many
		}
		n -= many
	}
	return l
}

// P11.1 and P11.2: longer operations, of spans of all kinds and lengths in many orders.
func TestLongerOnes(t *testing.T) {
	r := rand.New(rand.NewSource(11))
	for range 3000 {
		n := r.Intn(30)
		a, s := anyOf(r, n), anyOf(r, n)
		then := anyOf(r, op.Out(s))
		checkWord(t, a, s)
		checkWord(t, s, a)
		checkText(t, a, s, strings.Join(slices.Repeat(points, 3)[:n], ""))
		checkStep(t, a, s, then)
		checkStep(t, a, slices.Concat(empties, s), cut(then, 2))
		if t.Failed() {
			return
		}
	}
}

// P11.2: behind many operations one by one, it is the same as behind the one that they come to, whichever are made one first.
func TestManySteps(t *testing.T) {
	r := rand.New(rand.NewSource(112))
	for range 300 {
		n := r.Intn(20)
		a := anyOf(r, n)
		step, all := a, row(keep(n))
		for range 2 + r.Intn(8) {
			next := anyOf(r, op.Out(all))
			step = made(t, step, next)
			all, _ = compose.Of(all, next)
			if once := made(t, a, all); !slices.Equal(step, once) {
				t.Fatalf("%s is %s step by step, and %s at once", show(a), show(step), show(once))
			}
		}
	}
}

// P11.1: operations that take very many code points, in few spans.
func TestVeryManyCodePoints(t *testing.T) {
	const half = most / 2
	long := strings.Repeat("\xC3\xA9\xF0\x9F\x98\x80", half)
	for _, x := range [][3][]api.Span{
		{row(keep(most)), row(keep(most)), row(keep(most))},
		{row(drop(most)), row(keep(most)), row(drop(most))},
		{row(keep(most)), row(drop(most)), nil},
		{row(drop(most)), row(drop(most)), nil},
		{row(drop(most)), row(drop(most-1), keep(1)), row(drop(1))},
		{row(drop(most), put("x")), row(put("y"), drop(half), keep(half)), row(keep(1), drop(half), put("x"))},
		{row(keep(half), put("x"), keep(half)), row(drop(half+1), keep(half-1)), row(put("x"), keep(half-1))},
		{row(keep(half), put("x"), keep(half)), row(drop(half-1), keep(half+1)), row(keep(1), put("x"), keep(half))},
		{row(keep(half), put("x"), keep(half)), row(keep(half), put("y"), keep(half)), row(keep(half+1), put("x"), keep(half))},
		{row(keep(1), drop(most-2), keep(1)), row(keep(half), put("yz"), keep(half)), row(keep(1), drop(half-1), keep(2), drop(half-1), keep(1))},
		{row(put(long)), row(put(long)), row(keep(most), put(long))},
		{row(put(long), drop(most)), row(put(long), keep(most)), row(keep(most), put(long), drop(most))},
		{row(put(long), drop(most), put("x")), row(drop(most)), row(put(long + "x"))},
		// What is given is not bounded, nor is what is taken behind it.
		{row(keep(most)), row(put(long), keep(most), put(long)), row(keep(3 * most))},
		{row(drop(most), put("x")), row(keep(half), put(long+"x"), keep(half), put(long)), row(drop(half), keep(most+1), drop(half), keep(most), put("x"))},
	} {
		check(t, x[0], x[1], x[2])
	}
}

// P11.1: very many spans: to begin anew for each of them would take all day.
func TestVeryManySpans(t *testing.T) {
	const times = most / 4
	many := func(s string) []api.Span { return slices.Repeat(read(s), times) }
	for _, x := range [][3][]api.Span{
		{many("k1 +x d1"), many("d1 k1"), many("+x d1")},
		{many("k1 +x d1"), many("k1 d1"), many("k1 +x")},
		{many("k1 +x d1"), many("k1 +y k1"), many("k2 +x d1")},
		{many("k1 +x d1"), many("d1 +y d1"), many("k1 +x")},
		{many("k1 +x d1"), many("+y d1 +z k1"), many("k2 +x d1")},
		{many("d1 +x k1"), row(keep(2 * times)), many("d1 +x k1")},
		{many("d1 +x k1"), row(drop(2 * times)), row(put(strings.Repeat("x", times)))},
		{row(keep(2 * times)), many("d1 +x k1"), row(keep(2 * times))},
		{row(drop(2 * times)), many("d1 +xy k1"), many("k2 d1")},
		{many("+ab"), many("+xyz"), row(keep(3*times), put(strings.Repeat("ab", times)))},
		{many("k1 k1 + d0"), many("d0 k1 + k1"), row(keep(2 * times))},
	} {
		if got, e := over.Of(x[0], x[1]); !slices.Equal(got, x[2]) || e != api.OK {
			t.Errorf("Of(%s, %s) = %s, %d, want %s", show(x[0]), show(x[1]), show(got), e, show(x[2]))
		}
	}
}

// overwrite writes into all of a row's memory.
func overwrite(l []api.Span) {
	l = l[:cap(l)]
	for i := range l {
		l[i] = api.Span{Kind: 1, N: 99, Text: "over"}
	}
}

// R7: what is told is the caller's own: neither what was handed in, nor what was told of it before, sees what becomes of it, nor the other way about.
func TestWhatIsToldIsTheCallersOwn(t *testing.T) {
	for _, x := range slices.Concat(pairs, [][2]string{{"k2 +x d1", "k3"}, {"k3", "k2 +x d1"}, {"+x", ""}, {"", "+x"}, {"d1", "d1"}}) {
		want := byWord(read(x[0]), read(x[1]))
		a, asA := withRest(read(x[0]))
		s, asS := withRest(read(x[1]))
		first, second := made(t, a, s), made(t, a, s)
		overwrite(first)
		if !slices.Equal(a[:cap(a)], asA) || !slices.Equal(s[:cap(s)], asS) {
			t.Errorf("Of(%s, %s) tells memory that it was given", show(asA), show(asS))
		}
		overwrite(a)
		overwrite(s)
		if !slices.Equal(second, want) {
			t.Errorf("what was told is %s by now, not %s", show(second), show(want))
		}
	}
}

// R7: an operation may stand behind itself, and both be one memory.
func TestBothAreOne(t *testing.T) {
	for _, x := range samples {
		l, as := withRest(read(x))
		if got, e := over.Of(l, l); e != api.OK || !slices.Equal(got, byWord(l, l)) {
			t.Errorf("Of twice %s = %s, %d", show(l), show(got), e)
		}
		if !slices.Equal(l[:cap(l)], as) {
			t.Errorf("Of changed %s", show(l))
		}
	}
}

// R2 and R6: an error in between changes nothing of what is told next.
func TestAnErrorChangesNothing(t *testing.T) {
	a, s := read("+a d1 k1 +b"), read("k1 +x d1")
	for _, x := range wrong {
		checkFails(t, row(put("left"), keep(1), x.s), s, x.code)
		checkFails(t, a, row(put("left"), keep(1), x.s), x.code)
		checkFails(t, a, row(keep(4)), api.ErrLen)
		checkBoth(t, a, s, read("+a d1 k1 +b"))
	}
}
