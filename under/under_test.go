package under_test

import (
	"fmt"
	"math"
	"math/rand"
	"slices"
	"strconv"
	"strings"
	"testing"

	"epitome/api"
	"epitome/apply"
	"epitome/normal"
	"epitome/op"
	"epitome/over"
	"epitome/under"
)

// most is the greatest number that an operation may take: 2^20, written out anew.
const most = 1048576

func keep(n int) api.Span { return api.Span{Kind: 1, N: n} }

func put(text string) api.Span { return api.Span{Kind: 2, Text: text} }

func drop(n int) api.Span { return api.Span{Kind: 3, N: n} }

func row(l ...api.Span) []api.Span { return l }

// empties are the empty spans, one of each kind.
var empties = row(keep(0), put(""), drop(0))

// read is an operation that is written down: k and a number keep so many, d and a number drop so many, + and a text put that.
func read(s string) []api.Span {
	var l []api.Span
	for _, word := range strings.Fields(s) {
		n, _ := strconv.Atoi(word[1:])
		switch word[0] {
		case 'k':
			l = append(l, keep(n))
		case 'd':
			l = append(l, drop(n))
		case '+':
			l = append(l, put(word[1:]))
		}
	}
	return l
}

// points are code points of one, two, three and four bytes; U+FFFD, U+0000 and one that stands on the one ahead are among them.
var points = []string{"a", "\xC3\xA9", "\xE2\x82\xAC", "\xF0\x9F\x98\x80", "\x00", "\xEF\xBF\xBD", "\xCC\x81", "\xF4\x8F\xBF\xBF", "\x7F", "\xED\x9F\xBF"}

// wrong are spans that may not be, each with its error.
var wrong = []struct {
	s    api.Span
	code api.Errno
}{
	{api.Span{}, api.ErrKind},
	{api.Span{Kind: 4, N: 7}, api.ErrKind},
	{api.Span{Kind: -1, N: 5, Text: "a"}, api.ErrKind},
	{api.Span{Kind: math.MinInt, N: math.MaxInt, Text: "\xFF"}, api.ErrKind},
	{keep(-1), api.ErrSize},
	{keep(most + 1), api.ErrSize},
	{keep(math.MaxInt), api.ErrSize},
	{drop(-2), api.ErrSize},
	{drop(most + 1), api.ErrSize},
	{drop(math.MinInt), api.ErrSize},
	{api.Span{Kind: 1, N: -3, Text: "a"}, api.ErrSize},
	{api.Span{Kind: 2, N: 1, Text: "abc"}, api.ErrSize},
	{api.Span{Kind: 2, N: -1, Text: "\xC3"}, api.ErrSize},
	{api.Span{Kind: 1, N: 1, Text: "a"}, api.ErrText},
	{api.Span{Kind: 3, N: 1, Text: "ab"}, api.ErrText},
	{api.Span{Kind: 1, Text: "\xFF"}, api.ErrText},
	{put("a\xFF"), api.ErrText},
	{put("\xED\xA0\x80"), api.ErrText},
}

// show is a row to be read, with no more than the beginnings of its texts.
func show(l []api.Span) string {
	short := slices.Clone(l[:min(len(l), 12)])
	for i := range short {
		short[i].Text = short[i].Text[:min(len(short[i].Text), 20)]
	}
	return fmt.Sprintf("%d: %+q", len(l), fmt.Sprint(short))
}

// withRest is l in a memory that goes on behind it, and that memory as it is.
func withRest(l []api.Span) (given, as []api.Span) {
	const behind = 3
	given = make([]api.Span, len(l), len(l)+behind)
	copy(given, l)
	copy(given[len(l):cap(given)], row(keep(11), put("rest"), drop(13)))
	return given, slices.Clone(given[:cap(given)])
}

// twice hands two operations to what asks, two times: what was told once must not come to be another thing; what was handed in, and what stands behind it in its memory, stays as it was.
func twice(t *testing.T, l, m []api.Span, asks func(l, m []api.Span)) {
	t.Helper()
	x, asX := withRest(l)
	y, asY := withRest(m)
	for range 2 {
		asks(x, y)
	}
	if !slices.Equal(x[:cap(x)], asX) || !slices.Equal(y[:cap(y)], asY) {
		t.Errorf("%s or %s was changed", show(l), show(m))
	}
}

// ask holds what Of tells against what is wanted of it.
func ask(t *testing.T, s, a, want []api.Span, code api.Errno) {
	t.Helper()
	twice(t, s, a, func(s, a []api.Span) {
		t.Helper()
		if got, e := under.Of(s, a); !slices.Equal(got, want) || e != code {
			t.Errorf("Of(%s, %s) = %s, %d, want %s, %d", show(s), show(a), show(got), e, show(want), code)
		}
	})
}

// askMeet holds what Meet tells against what is wanted of it.
func askMeet(t *testing.T, a, s, behind, ahead []api.Span, code api.Errno) {
	t.Helper()
	twice(t, a, s, func(a, s []api.Span) {
		t.Helper()
		x, y, e := under.Meet(a, s)
		if !slices.Equal(x, behind) || !slices.Equal(y, ahead) || e != code {
			t.Errorf("Meet(%s, %s) = %s, %s, %d, want %s, %s, %d", show(a), show(s), show(x), show(y), e, show(behind), show(ahead), code)
		}
	})
}

// check holds two operations, and their shortest forms, against what the first one is, as the one that came first, behind the second one: it is in its shortest form, and takes what the second one gives.
func check(t *testing.T, s, a, want []api.Span) {
	t.Helper()
	if !normal.Is(want) || op.In(want) != op.Out(a) || op.In(s) != op.In(a) {
		t.Fatalf("what is wanted of %s behind %s is wrong: %s", show(s), show(a), show(want))
	}
	behind, e := over.Of(a, s)
	if e != api.OK {
		t.Fatalf("over.Of(%s, %s) tells %d", show(a), show(s), e)
	}
	for _, x := range [][]api.Span{s, normal.Of(s)} {
		for _, y := range [][]api.Span{a, normal.Of(a)} {
			ask(t, x, y, want, api.OK)
			askMeet(t, y, x, behind, want, api.OK)
		}
	}
}

// checkFails holds two operations, the one that is handed in first ahead, to the error of theirs, which Of tells of s and a, and Meet of a and s; with the error nothing else is told.
func checkFails(t *testing.T, l, m []api.Span, code api.Errno) {
	t.Helper()
	ask(t, l, m, nil, code)
	askMeet(t, l, m, nil, nil, code)
}

// places is an operation by its places: what becomes of each code point that it takes, and what is put in each gap, a code point each.
type places struct {
	put  [][]string
	gone []bool
}

func placesOf(l []api.Span) places {
	p := places{put: make([][]string, 1)}
	for _, s := range l {
		for range s.N {
			p.put, p.gone = append(p.put, nil), append(p.gone, s.Kind == 3)
		}
		last := len(p.put) - 1
		p.put[last] = append(p.put[last], strings.Split(s.Text, "")...)
	}
	return p
}

// before tells of each gap how many code points are given by all that is put in the gaps ahead of it, and by the code points ahead that are not dropped.
func (p places) before() []int {
	before := []int{0}
	for gap, gone := range p.gone {
		given := before[gap] + len(p.put[gap])
		if !gone {
			given++
		}
		before = append(before, given)
	}
	return before
}

// spans is the shortest operation of these places.
func (p places) spans() []api.Span {
	var l []api.Span
	last := func(kind int) *api.Span {
		if len(l) == 0 || l[len(l)-1].Kind != kind {
			l = append(l, api.Span{Kind: kind})
		}
		return &l[len(l)-1]
	}
	for gap, texts := range p.put {
		for _, text := range texts {
			last(2).Text += text
		}
		if gap == len(p.gone) {
			return l
		}
		if p.gone[gap] {
			last(3).N++
		} else {
			last(1).N++
		}
	}
	return l
}

// byWord is what the first of two operations is, as the one that came first, behind the second one, by the chapter's own words, place by place.
func byWord(s, a []api.Span) []api.Span {
	does, other := placesOf(s), placesOf(a)
	behind := places{put: make([][]string, op.Out(a)+1), gone: make([]bool, op.Out(a))}
	for gap, at := range other.before() {
		behind.put[at] = append(behind.put[at], does.put[gap]...)
		// The code point behind the gap stands behind all that a puts there.
		if gap < len(other.gone) && !other.gone[gap] {
			behind.gone[at+len(other.put[gap])] = does.gone[gap]
		}
	}
	return behind.spans()
}

// checkWord holds two operations against the chapter's own words.
func checkWord(t *testing.T, s, a []api.Span) {
	t.Helper()
	check(t, s, a, byWord(s, a))
}

// checkBoth holds two operations against what is wanted by hand, and that against the chapter's own words.
func checkBoth(t *testing.T, s, a, want []api.Span) {
	t.Helper()
	if w := byWord(s, a); !slices.Equal(w, want) {
		t.Errorf("%s behind %s is %s by the words, and %s by hand", show(s), show(a), show(w), show(want))
	}
	check(t, s, a, want)
}

// checkAll holds rows of two operations, and of what the first one is behind the second one, that are written down.
func checkAll(t *testing.T, l [][3]string) {
	t.Helper()
	for _, x := range l {
		checkBoth(t, read(x[0]), read(x[1]), read(x[2]))
	}
}

// P12.1: the chapter's example.
func TestExample(t *testing.T) {
	checkAll(t, [][3]string{{"k1 +x k2", "k1 +y d1 k1", "k1 +x k2"}})
}

// P12.2: both of two, by hand.
func TestMeet(t *testing.T) {
	for _, x := range [][4]string{
		{"", "", "", ""},
		{"+y", "+x", "k1 +y", "+x k1"},
		{"k1 +y k2", "k1 +x d1 k1", "k2 +y k1", "k1 +x k1 d1 k1"},
		{"k1 +y d1 k1", "k1 +x k2", "k2 +y d1 k1", "k1 +x k2"},
		{"d1 k1", "k1 d1", "d1", "d1"},
		{"d2 +y", "k1 +x k1", "d1 k1 d1 +y", "+x k1"},
		{"+p k1 +q", "+x d1 +z", "k1 +p k1 +q", "+x k1 d1 +z k1"},
	} {
		askMeet(t, read(x[0]), read(x[1]), read(x[2]), read(x[3]), api.OK)
	}
}

// P12.1 and P12.2: of operations of no spans.
func TestNoSpans(t *testing.T) {
	for _, none := range [][]api.Span{nil, row()} {
		for _, other := range [][]api.Span{nil, row()} {
			checkBoth(t, none, other, nil)
		}
		checkBoth(t, row(put("x")), none, row(put("x")))
		checkBoth(t, none, row(put("x")), row(keep(1)))
	}
}

// P12.1: of each code point that a keeps it does what s does, and nothing of those that a drops.
func TestCodePoints(t *testing.T) {
	checkAll(t, [][3]string{
		{"k1", "k1", "k1"},
		{"d1", "k1", "d1"},
		{"k1", "d1", ""},
		{"d1", "d1", ""},
		{"d1 k1", "k1 d1", "d1"},
		{"d1 k1", "d1 k1", "k1"},
		{"k1 d1", "k1 d1", "k1"},
		{"k1 d1", "d1 k1", "d1"},
		{"d3", "k1 d1 k1", "d2"},
		{"k3", "k1 d1 k1", "k2"},
		{"k1 d1 k1", "d1 k1 d1", "d1"},
		{"k1 d1 k1", "k1 d1 k1", "k2"},
		{"d1 k1 d1", "k1 d1 k1", "d2"},
		{"k2 d3 k4", "k3 d3 k3", "k2 d1 k3"},
		{"k2 d5 k2", "k4 d1 k4", "k2 d4 k2"},
		{"k4 d1 k4", "k2 d5 k2", "k4"},
		{"d2 k5 d2", "d1 k7 d1", "d1 k5 d1"},
	})
}

// P12.1: all that a puts is kept, be it among what s drops, keeps, or puts.
func TestWhatTheOtherOnePutsIsKept(t *testing.T) {
	checkAll(t, [][3]string{
		{"", "+xyz", "k3"},
		{"k1", "+x k1 +y", "k3"},
		{"d1", "+x k1 +y", "k1 d1 k1"},
		{"d1", "+x d1 +y", "k2"},
		{"d3", "k1 +x k2", "d1 k1 d2"},
		{"d3", "k1 +xy k1 +z k1", "d1 k2 d1 k1 d1"},
		{"d2", "+x k2", "k1 d2"},
		{"d2", "k2 +x", "d2 k1"},
		{"d2", "d1 +x k1", "k1 d1"},
		{"d2", "k1 +x d1", "d1 k1"},
		{"k1 d1 k1", "k1 +x k1 +y k1", "k2 d1 k2"},
		{"d1 +w d1", "+x k1 +y k1 +z", "k1 d1 +w k1 d1 k1"},
	})
}

// P12.1: what s puts in a gap stands ahead of what a puts there: at the beginning, in the middle, at the end, where a, or s, drops on one side of the gap, or on both.
func TestBothPutInOneGap(t *testing.T) {
	checkAll(t, [][3]string{
		{"+x", "+a", "+x k1"},
		{"+xyz", "+ab", "+xyz k2"},
		{"+x k1", "+a k1", "+x k2"},
		{"k1 +x", "k1 +a", "k1 +x k1"},
		{"k1 +x k1", "k1 +a k1", "k1 +x k2"},
		{"+x k1", "+a d1", "+x k1"},
		{"+x d1", "+a k1", "+x k1 d1"},
		{"+x d1", "+a d1", "+x k1"},
		{"k1 +x", "d1 +a", "+x k1"},
		{"d1 +x", "k1 +a", "d1 +x k1"},
		{"d1 +x", "d1 +a", "+x k1"},
		{"k1 +x k1", "d1 +a k1", "+x k2"},
		{"k1 +x k1", "k1 +a d1", "k1 +x k1"},
		{"k1 +x k1", "d1 +a d1", "+x k1"},
		{"d1 +x k1", "k1 +a k1", "d1 +x k2"},
		{"k1 +x d1", "k1 +a k1", "k1 +x k1 d1"},
		{"d1 +x d1", "k1 +a k1", "d1 +x k1 d1"},
		{"d1 +x d1", "d1 +a d1", "+x k1"},
		{"+x k1 +yy k1 +zzz", "+a k1 +b k1 +c", "+x k2 +yy k2 +zzz k1"},
	})
}

// P12.1: what s puts right ahead of, or right behind, what a puts, with a code point between that is kept or dropped.
func TestNextToWhatTheOtherOnePuts(t *testing.T) {
	checkAll(t, [][3]string{
		{"+x k1", "k1 +a", "+x k2"},
		{"k1 +x", "+a k1", "k2 +x"},
		{"+x k1", "d1 +a", "+x k1"},
		{"k1 +x", "+a d1", "k1 +x"},
		{"+x d1", "k1 +a", "+x d1 k1"},
		{"d1 +x", "+a k1", "k1 d1 +x"},
		{"+x d1", "d1 +a", "+x k1"},
		{"d1 +x", "+a d1", "k1 +x"},
		// a puts ahead of, between and behind what it drops.
		{"k1 +x k1 +y k1 +z k1", "k1 +a d1 +b d1 +c k1", "k1 +x k1 +y k1 +z k2"},
		{"k1 +x k1 +y k1 +z k1", "k1 +a d2 k1", "k1 +x k1 +yz k1"},
		{"k1 +x k1 +y k1 +z k1", "k1 d1 +b d1 k1", "k1 +xy k1 +z k1"},
		{"k1 +x k1 +y k1 +z k1", "k1 d2 +c k1", "k1 +xyz k2"},
		// And so does s.
		{"k1 +x d1 +y d1 +z k1", "k1 +a k3", "k1 +x k1 d1 +y d1 +z k1"},
		{"k1 +x d1 +y d1 +z k1", "k2 +b k2", "k1 +x d1 +y k1 d1 +z k1"},
		{"k1 +x d1 +y d1 +z k1", "k3 +c k1", "k1 +x d1 +y d1 +z k2"},
		{"k1 +x d1 +y d1 +z k1", "k1 d1 +b k2", "k1 +xy k1 d1 +z k1"},
		{"k1 +x d1 +y d1 +z k1", "k2 +b d1 k1", "k1 +x d1 +y k1 +z k1"},
	})
}

// P12.1: what s puts in several gaps that come to be one is put in their order, ahead of what a puts in the last one of them.
func TestGapsThatComeToBeOne(t *testing.T) {
	checkAll(t, [][3]string{
		{"+x k1 +y", "d1", "+xy"},
		{"+x d1 +y", "d1", "+xy"},
		{"+z d1 +y k1 +x", "d2", "+zyx"},
		{"+x k1 +y k1 +z", "d2", "+xyz"},
		{"+x k1 +y k1 +z", "+a d2", "+x k1 +yz"},
		{"+x k1 +y k1 +z", "d1 +a d1", "+xy k1 +z"},
		{"+x k1 +y k1 +z", "d2 +a", "+xyz k1"},
		{"+x k1 +y k1 +z", "+a d1 +b d1 +c", "+x k1 +y k1 +z k1"},
		{"k1 +x k1 +y k1", "k1 d1 k1", "k1 +xy k1"},
		{"d1 +x d1 +y d1", "k1 d1 k1", "d1 +xy d1"},
		{"+w k1 +x k1 +y k1 +z", "d1 k1 d1", "+wx k1 +yz"},
		{"+x k2 +y k2 +z", "k1 d2 k1", "+x k1 +y k1 +z"},
	})
}

// P12.1: what s puts in a gap is put ahead of all that a puts there, in each gap, and behind all that is given ahead of it.
func TestEachGap(t *testing.T) {
	for _, x := range samples {
		a := read(x)
		in, out := op.In(a), op.Out(a)
		for gap, at := range placesOf(a).before() {
			want := normal.Of(row(keep(at), put("new"), keep(out-at)))
			checkBoth(t, row(keep(gap), put("new"), keep(in-gap)), a, want)
			checkBoth(t, row(keep(gap), put("ne"), keep(0), put("w"), keep(in-gap)), a, want)
		}
	}
}

// samples are operations, each to be put behind others and ahead of them.
var samples = []string{
	"", "k3", "d2", "+xy", "+x k1", "k1 +x", "d1 +x", "+x d1", "k1 d1 k1", "k1 +x d1 k2", "k1 d1 +x k2", "+p d1 +q d1 +r",
	"k2 +\xC3\xA9a d1 k1 d4 +\xF0\x9F\x98\x80 k3", "d1 +x k1 +yz d2 +w k1 +v",
}

// each is so many spans of one code point, or one of so many.
func each(n int, cut bool, span func(int) api.Span) []api.Span {
	if cut {
		return slices.Repeat(row(span(1)), n)
	}
	return row(span(n))
}

// P12.1: behind one that keeps all an operation is its own shortest form; and one that keeps all keeps all that is given.
func TestAllIsKept(t *testing.T) {
	for _, x := range samples {
		l := read(x)
		for _, cut := range []bool{false, true} {
			all := each(op.In(l), cut, keep)
			checkBoth(t, l, all, normal.Of(l))
			checkBoth(t, slices.Concat(empties, l, empties), all, normal.Of(l))
			checkBoth(t, all, l, normal.Of(row(keep(op.Out(l)))))
		}
	}
}

// puts is all that an operation puts, in its order.
func puts(l []api.Span) string {
	text := ""
	for _, s := range l {
		text += s.Text
	}
	return text
}

// P12.1: behind one that drops all nothing is left but what is put; and of one that drops all, what the other one kept.
func TestAllIsDropped(t *testing.T) {
	for _, x := range samples {
		l := read(x)
		n := op.In(l)
		for _, cut := range []bool{false, true} {
			all := each(n, cut, drop)
			checkBoth(t, l, all, normal.Of(row(put(puts(l)))))
			checkBoth(t, l, slices.Concat(all, row(put("new"))), normal.Of(row(put(puts(l)), keep(3))))
			checkBoth(t, slices.Concat(row(put("new")), all), each(n, cut, drop), row(put("new")))
			var want []api.Span
			for _, s := range l {
				switch s.Kind {
				case 1:
					want = append(want, drop(s.N))
				case 2:
					want = append(want, keep(op.Out(row(s))))
				}
			}
			checkBoth(t, all, l, normal.Of(want))
		}
	}
}

// P12.1: behind one that only puts, and of one that only puts.
func TestOnlyPuts(t *testing.T) {
	checkAll(t, [][3]string{
		{"+x +y", "+a +b", "+xy k2"},
		{"", "+a +b", "k2"},
		{"+x +y", "", "+xy"},
		{"k2", "+a k1 +b k1 +c", "k5"},
		{"d2", "+a k1 +b k1 +c", "k1 d1 k1 d1 k1"},
		{"+x k2", "+a k1 +b k1 +c", "+x k5"},
		{"+x k1 +y k1 +z", "k2 +c", "+x k1 +y k1 +z k1"},
		{"+x k1 +y k1 +z", "+a k1 +b k1 +c", "+x k2 +y k2 +z k1"},
		{"+x d1 +y d1 +z", "+a k1 +b k1 +c", "+x k1 d1 +y k1 d1 +z k1"},
	})
}

// P12.1: code points of what a puts are counted, not bytes, and texts that s puts stay whole.
func TestCodePointsAreCounted(t *testing.T) {
	all := strings.Join(points, "")
	n := len(points)
	checkBoth(t, row(put(all)), row(put(all)), row(put(all), keep(n)))
	checkBoth(t, row(drop(1), put(all), keep(1)), row(keep(1), put(all), keep(1)), row(drop(1), put(all), keep(n+1)))
	for _, p := range points {
		checkBoth(t, row(put(p), keep(1)), row(put(p), keep(1)), row(put(p), keep(2)))
		checkBoth(t, row(drop(2)), row(keep(1), put(p), keep(1)), row(drop(1), keep(1), drop(1)))
		checkBoth(t, row(keep(1), put(p), drop(1)), row(put(all+p), drop(1), keep(1)), row(keep(n+1), put(p), drop(1)))
		for _, q := range points {
			checkBoth(t, row(put(p), keep(1), put(q)), row(put(q+p), drop(1), put(q)), row(put(p), keep(2), put(q), keep(1)))
			checkBoth(t, row(put(p), keep(1), put(q)), row(drop(1), put(q+p)), row(put(p+q), keep(2)))
		}
	}
}

// pairs are operations on one text.
var pairs = [][2]string{
	{"", ""},
	{"+x", "+a"},
	{"k3", "k1 d1 k1"},
	{"d2", "k1 +a k1"},
	{"k1 +x k2", "k1 +a d1 k1"},
	{"d1 +x d1", "d1 +a d1"},
	{"+x k1 +y k1 +z", "d2"},
	{"k2 d1 +x k1", "k1 d1 k2"},
	{"k2 +\xC3\xA9a\xE2\x82\xAC d1 k1 d4 +y k3", "+p k1 d2 +\xF0\x9F\x98\x80 k1 d2 k2 +q d2 k1 +r"},
}

// P12.1 and P12.2: empty spans of each kind, one and some, at each place of either operation, change nothing.
func TestEmptySpansChangeNothing(t *testing.T) {
	for _, x := range pairs {
		s, a := read(x[0]), read(x[1])
		want := byWord(s, a)
		for _, some := range [][]api.Span{empties[:1], empties[1:2], empties[2:], empties, slices.Repeat(empties, 2)} {
			for i := range len(s) + 1 {
				with := slices.Insert(slices.Clone(s), i, some...)
				checkBoth(t, with, a, want)
				for j := range len(a) + 1 {
					checkBoth(t, with, slices.Insert(slices.Clone(a), j, some...), want)
				}
			}
			for j := range len(a) + 1 {
				checkBoth(t, s, slices.Insert(slices.Clone(a), j, some...), want)
			}
		}
	}
	for _, x := range empties {
		for _, y := range empties {
			checkBoth(t, row(x), row(y), nil)
			checkBoth(t, row(x, drop(1), x, put("x"), x), row(y, put("a"), y, keep(1), y), read("k1 d1 +x"))
		}
	}
}

// cut is an operation in spans of no more than n code points each.
func cut(l []api.Span, n int) []api.Span {
	var pieces []api.Span
	for _, s := range l {
		for s.N > n {
			pieces = append(pieces, api.Span{Kind: s.Kind, N: n})
			s.N -= n
		}
		texts := strings.Split(s.Text, "")
		for len(texts) > n {
			pieces = append(pieces, put(strings.Join(texts[:n], "")))
			texts = texts[n:]
		}
		s.Text = strings.Join(texts, "")
		pieces = append(pieces, s)
	}
	return pieces
}

// P12.1 and P12.2: spans of one kind side by side, cut at unlike places in both operations, come to the same.
func TestSpansAreCutAtUnlikePlaces(t *testing.T) {
	long := row(keep(20), put(strings.Join(points, "")+"0123456789abc"), drop(11), keep(7), drop(2), put("opqrstuvwxyz"), keep(9))
	for _, x := range [][2][]api.Span{
		{long, read("k13 d9 +ABCDEFGH k12 d13 +IJKLM k2")},
		{read("k13 d9 +ABCDEFGH k12 d13 +IJKLM k2"), long},
		{long, read("d25 +ABC k3 d19 k1 +DEF k1 +GH")},
		{read("d25 +ABC k3 d19 k1 +DEF k1 +GH"), long},
		{read("k20 +ABC k20 +DEF k9"), long},
		{long, row(keep(49))},
		{long, row(drop(49))},
		{row(drop(49)), long},
	} {
		want := byWord(x[0], x[1])
		for n := 1; n <= 26; n++ {
			for _, m := range []int{1, 2, 3, 4, 5, 7, 10, 13, 100} {
				check(t, cut(x[0], n), cut(x[1], m), want)
			}
		}
	}
}

// around are spans of which each stands next to wrong ones; all of them may be.
var around = [][]api.Span{nil, row(keep(1)), row(put("a")), row(drop(1)), empties, row(keep(2), put("x"), drop(1))}

// P12.1 and P12.2: op's error of a span that may not be, in s, in a or in both, alone, and first, in the middle and last of others.
func TestOneWrongSpan(t *testing.T) {
	for _, x := range wrong {
		for _, l := range around {
			for _, m := range around {
				bad := slices.Concat(l, row(x.s), m)
				as := row(keep(max(op.In(bad), 0) % (most + 1)))
				checkFails(t, bad, nil, x.code)
				checkFails(t, bad, as, x.code)
				checkFails(t, nil, bad, x.code)
				checkFails(t, as, bad, x.code)
				checkFails(t, bad, bad, x.code)
			}
		}
	}
	checkFails(t, row(put("\xC3"), put("\xA9")), nil, api.ErrText)
	checkFails(t, nil, row(put("\xC3"), put("\xA9")), api.ErrText)
}

// P12.1 and P12.2: of several errors that of what is handed in first (s of Of, a of Meet) comes first, and in an operation the one further left; and both ahead of lengths that are not the same.
func TestTheFirstErrorIsTold(t *testing.T) {
	tooMuch := row(keep(most), drop(1))
	for _, x := range wrong {
		for _, y := range wrong {
			checkFails(t, row(x.s), row(y.s), x.code)
			checkFails(t, row(keep(3), x.s), row(put("b"), y.s, keep(3)), x.code)
			checkFails(t, row(keep(3), x.s, drop(2), y.s), row(keep(3)), x.code)
			checkFails(t, row(keep(3)), row(keep(3), x.s, drop(2), y.s), x.code)
		}
		checkFails(t, tooMuch, row(x.s), api.ErrBig)
		checkFails(t, row(x.s), tooMuch, x.code)
		checkFails(t, row(keep(most), drop(1), x.s), row(keep(most)), x.code)
		checkFails(t, row(keep(most)), row(keep(most), drop(1), x.s), x.code)
		// And the lengths are not the same, either.
		checkFails(t, row(x.s, keep(5)), row(keep(77)), x.code)
		checkFails(t, row(keep(77)), row(x.s, keep(5)), x.code)
	}
}

// P12.1 and P12.2: what takes more than 2^20 is too big, in s and in a, whether the other one takes as much or not.
func TestTooMuchIsTaken(t *testing.T) {
	for _, l := range [][]api.Span{
		row(keep(most), keep(1)), row(drop(most), drop(1)), row(keep(1), drop(most)), row(drop(most), keep(most)),
		row(put("x"), keep(most-1), put("y"), drop(2), put("z")),
		slices.Repeat(row(drop(most)), 4096),
	} {
		for _, other := range [][]api.Span{nil, row(keep(1)), row(keep(most)), row(put("x"), drop(1)), l} {
			checkFails(t, l, other, api.ErrBig)
			checkFails(t, other, l, api.ErrBig)
		}
	}
}

// P12.1 and P12.2: lengths that are not the same, one too few and one too many; what is given does not matter.
func TestLengthsThatAreNotTheSame(t *testing.T) {
	for _, x := range samples {
		l := read(x)
		in, out := op.In(l), op.Out(l)
		for _, kind := range []func(int) api.Span{keep, drop} {
			others := [][]api.Span{
				row(kind(in + 1)), row(kind(in), kind(most-in)), row(kind(in), put("x"), kind(1)),
				row(kind(in+1), put(strings.Repeat("x", out))),
			}
			if in > 0 {
				others = append(others, nil, row(kind(in-1)), row(kind(in-1), put("\xC3\xA9")), row(put(strings.Repeat("x", in))))
			}
			if out != in {
				others = append(others, row(kind(out)))
			}
			for _, other := range others {
				checkFails(t, l, other, api.ErrLen)
				checkFails(t, other, l, api.ErrLen)
			}
		}
	}
	checkFails(t, row(keep(most)), row(drop(most-1)), api.ErrLen)
	checkFails(t, row(drop(most-1)), row(keep(most)), api.ErrLen)
}

// made is what Of tells of two operations of which the test knows that they may be.
func made(t *testing.T, s, a []api.Span) []api.Span {
	t.Helper()
	l, e := under.Of(s, a)
	if e != api.OK || !normal.Is(l) {
		t.Fatalf("Of(%s, %s) = %s, %d", show(s), show(a), show(l), e)
	}
	return l
}

// given is what an operation, of which the test knows that it fits, makes of a text.
func given(t *testing.T, l []api.Span, text string) string {
	t.Helper()
	s, e := apply.To(l, text)
	if e != api.OK {
		t.Fatalf("To(%s, %+q) tells %d", show(l), text, e)
	}
	return s
}

// left is what stands, of the code points that are there first, and of what both put, behind both operations.
func left(s, a []api.Span, text string) string {
	first, other := placesOf(s), placesOf(a)
	all := ""
	for gap := range first.put {
		all += strings.Join(first.put[gap], "") + strings.Join(other.put[gap], "")
		if gap < len(first.gone) && !first.gone[gap] && !other.gone[gap] {
			all += strings.Split(text, "")[gap]
		}
	}
	return all
}

// checkText holds two operations to P12.3: a text comes to be the same, whichever of them is done first, and has what both leave of it, and put.
func checkText(t *testing.T, s, a []api.Span, text string) {
	t.Helper()
	want := left(s, a, text)
	behind, e := over.Of(a, s)
	if e != api.OK {
		t.Fatalf("over.Of(%s, %s) tells %d", show(a), show(s), e)
	}
	if got := given(t, behind, given(t, s, text)); got != want {
		t.Errorf("of %+q, %s and behind it %s give %+q, want %+q", text, show(s), show(a), got, want)
	}
	if got := given(t, made(t, s, a), given(t, a, text)); got != want {
		t.Errorf("of %+q, %s and then %s, which came first, give %+q, want %+q", text, show(a), show(s), got, want)
	}
	behind, ahead, _ := under.Meet(a, s)
	if x, y := given(t, behind, given(t, s, text)), given(t, ahead, given(t, a, text)); x != want || y != want {
		t.Errorf("of %+q, %s and %s do not meet: %+q and %+q, want %+q", text, show(s), show(a), x, y, want)
	}
}

// P12.3: by hand: each text is what is there first, s, a, and what comes of both.
func TestBothMeet(t *testing.T) {
	for _, x := range [][4]string{
		{"", "", "", ""},
		{"", "+x", "+y", "xy"},
		{"abc", "k1 +x k2", "k1 +y d1 k1", "axyc"},
		{"abc", "k1 +x d1 k1", "k1 +y k2", "axyc"},
		{"abc", "k2 +x k1", "k1 d1 +y k1", "axyc"},
		{"abc", "k2 +x k1", "k1 +y d1 k1", "ayxc"},
		{"abc", "d3 +x", "k1 +y k2", "yx"},
		{"\xC3\xA9\xE2\x82\xAC\xF0\x9F\x98\x80", "k1 +\xF4\x8F\xBF\xBF d1 k1", "d2 +\xCC\x81 k1", "\xF4\x8F\xBF\xBF\xCC\x81\xF0\x9F\x98\x80"},
	} {
		s, a := read(x[1]), read(x[2])
		if got := left(s, a, x[0]); got != x[3] {
			t.Errorf("%s and %s leave %+q by the words, and %+q by hand", show(s), show(a), got, x[3])
		}
		checkText(t, s, a, x[0])
	}
}

// short are all operations of so many code points, each kept or dropped by a span of its own, in which so many texts stand anywhere between these: letters from that one on, every other one behind another code point.
func short(takes, puts int, letter byte) [][]api.Span {
	if takes == 0 && puts == 0 {
		return [][]api.Span{nil}
	}
	var all [][]api.Span
	add := func(s api.Span, l [][]api.Span) {
		for _, x := range l {
			all = append(all, append(row(s), x...))
		}
	}
	if takes > 0 {
		add(keep(1), short(takes-1, puts, letter))
		add(drop(1), short(takes-1, puts, letter))
	}
	if puts > 0 {
		text := string(rune(letter))
		if puts%2 == 0 {
			text = "\xC3\xA9" + text
		}
		add(put(text), short(takes, puts-1, letter+1))
	}
	return all
}

// upTo are all that short tells of so many texts, and fewer.
func upTo(takes, puts int, letter byte) [][]api.Span {
	var all [][]api.Span
	for n := range puts + 1 {
		all = append(all, short(takes, n, letter)...)
	}
	return all
}

// P12.1 to P12.3: all short operations of a short text, behind all short ones: against the chapter's own words, and what comes of a text.
func TestAllShortOnes(t *testing.T) {
	const text = "\xE2\x82\xAC12"
	for takes := range 4 {
		short := strings.Join(strings.Split(text, "")[:takes], "")
		others := upTo(takes, 2, 'p')
		for _, s := range upTo(takes, 2, 'A') {
			for _, a := range others {
				checkWord(t, s, a)
				checkText(t, s, a, short)
				if t.Failed() {
					return
				}
			}
		}
	}
}

// anyOf is an operation that takes n, of the numbers that r tells, which are the same ones each time.
func anyOf(r *rand.Rand, n int) []api.Span {
	var l []api.Span
	for n > 0 || r.Intn(3) > 0 {
		many := min(r.Intn(6), n)
		switch r.Intn(4) {
		case 0:
			l = append(l, keep(many))
		case 1:
			l = append(l, drop(many))
		case 2:
			n += many
			text := ""
			for range r.Intn(5) {
				text += points[r.Intn(len(points))] + string(rune('A'+r.Intn(26)))
			}
			l = append(l, put(text))
		default:
			l = append(l, empties[r.Intn(3)])
			n += many
		}
		n -= many
	}
	return l
}

// P12.1 to P12.3: longer operations, of spans of all kinds and lengths in many orders.
func TestLongerOnes(t *testing.T) {
	r := rand.New(rand.NewSource(12))
	for range 3000 {
		n := r.Intn(30)
		s, a := anyOf(r, n), anyOf(r, n)
		text := strings.Join(slices.Repeat(points, 3)[:n], "")
		checkWord(t, s, a)
		checkWord(t, a, s)
		checkText(t, s, a, text)
		checkText(t, slices.Concat(empties, s), cut(a, 2), text)
		if t.Failed() {
			return
		}
	}
}

// P12.1 to P12.3: operations that take very many code points, in few spans.
func TestVeryManyCodePoints(t *testing.T) {
	const half = most / 2
	long := strings.Repeat("\xC3\xA9\xF0\x9F\x98\x80", half)
	for _, x := range [][3][]api.Span{
		{row(keep(most)), row(keep(most)), row(keep(most))},
		{row(drop(most)), row(keep(most)), row(drop(most))},
		{row(keep(most)), row(drop(most)), nil},
		{row(drop(most)), row(drop(most)), nil},
		{row(drop(most)), row(drop(most-1), keep(1)), row(drop(1))},
		{row(drop(most), put("x")), row(put("y"), drop(half), keep(half)), row(keep(1), drop(half), put("x"))},
		{row(keep(half), put("x"), keep(half)), row(drop(half+1), keep(half-1)), row(put("x"), keep(half-1))},
		{row(keep(half), put("x"), keep(half)), row(drop(half-1), keep(half+1)), row(keep(1), put("x"), keep(half))},
		{row(keep(half), put("x"), keep(half)), row(keep(half), put("y"), keep(half)), row(keep(half), put("x"), keep(half+1))},
		{row(keep(1), drop(most-2), keep(1)), row(keep(half), put("yz"), keep(half)), row(keep(1), drop(half-1), keep(2), drop(half-1), keep(1))},
		{row(put(long)), row(put(long)), row(put(long), keep(most))},
		{row(put(long), drop(most)), row(put(long), keep(most)), row(put(long), keep(most), drop(most))},
		{row(put(long), drop(most), put("x")), row(drop(most)), row(put(long + "x"))},
		// What is given is not bounded, nor is what is taken behind it.
		{row(keep(most)), row(put(long), keep(most), put(long)), row(keep(3 * most))},
		{row(drop(most), put("x")), row(keep(half), put(long+"y"), keep(half), put(long)), row(drop(half), keep(most+1), drop(half), put("x"), keep(most))},
	} {
		check(t, x[0], x[1], x[2])
	}
	text := strings.Repeat("a\xE2\x82\xAC", half)
	s, a := row(keep(half), put("x"), drop(half)), row(drop(1), keep(half-1), put("y"), keep(half))
	behind, ahead, _ := under.Meet(a, s)
	want := text[1:len(text)/2] + "xy"
	if x, y := given(t, behind, given(t, s, text)), given(t, ahead, given(t, a, text)); x != want || y != want {
		t.Errorf("a long text does not come to be the same: %d and %d bytes, want %d", len(x), len(y), len(want))
	}
}

// P12.1 and P12.2: very many spans: to begin anew for each of them would take all day.
func TestVeryManySpans(t *testing.T) {
	const times = most / 8
	many := func(s string) []api.Span { return slices.Repeat(read(s), times) }
	for _, x := range [][3][]api.Span{
		{many("k1 +x d1"), many("d1 k1"), many("+x d1")},
		{many("k1 +x d1"), many("k1 d1"), many("k1 +x")},
		{many("k1 +x d1"), many("k1 +y k1"), many("k1 +x k1 d1")},
		{many("k1 +x d1"), many("d1 +y d1"), many("+x k1")},
		{many("k1 +x d1"), many("+y d1 +z k1"), many("k1 +x k1 d1")},
		{many("d1 +x k1"), row(keep(2 * times)), many("d1 +x k1")},
		{many("d1 +x k1"), row(drop(2 * times)), row(put(strings.Repeat("x", times)))},
		{row(keep(2 * times)), many("d1 +x k1"), row(keep(2 * times))},
		{row(drop(2 * times)), many("d1 +xy k1"), many("k2 d1")},
		{many("+xyz"), many("+ab"), row(put(strings.Repeat("xyz", times)), keep(2*times))},
		{many("k1 k1 + d0"), many("d0 k1 + k1"), row(keep(2 * times))},
	} {
		if got, e := under.Of(x[0], x[1]); !slices.Equal(got, x[2]) || e != api.OK {
			t.Errorf("Of(%s, %s) = %s, %d, want %s", show(x[0]), show(x[1]), show(got), e, show(x[2]))
		}
		behind, _ := over.Of(x[1], x[0])
		if got, ahead, e := under.Meet(x[1], x[0]); !slices.Equal(got, behind) || !slices.Equal(ahead, x[2]) || e != api.OK {
			t.Errorf("Meet(%s, %s) = %s, %s, %d, want %s, %s", show(x[1]), show(x[0]), show(got), show(ahead), e, show(behind), show(x[2]))
		}
	}
}

// overwrite writes into all of a row's memory.
func overwrite(l []api.Span) {
	l = l[:cap(l)]
	for i := range l {
		l[i] = api.Span{Kind: 1, N: 99, Text: "over"}
	}
}

// R7: what is told is the caller's own: neither what was handed in, nor the other thing that is told, nor what was told before, sees what becomes of it, nor the other way about.
func TestWhatIsToldIsTheCallersOwn(t *testing.T) {
	for _, x := range slices.Concat(pairs, [][2]string{{"k2 +x d1", "k3"}, {"k3", "k2 +x d1"}, {"+x", ""}, {"", "+x"}, {"d1", "d1"}}) {
		want := byWord(read(x[0]), read(x[1]))
		s, asS := withRest(read(x[0]))
		a, asA := withRest(read(x[1]))
		wantBehind, _ := over.Of(a, s)
		first, second := made(t, s, a), made(t, s, a)
		behind, ahead, _ := under.Meet(a, s)
		overwrite(first)
		overwrite(behind)
		if !slices.Equal(s[:cap(s)], asS) || !slices.Equal(a[:cap(a)], asA) {
			t.Errorf("Of(%s, %s), or Meet, tells memory that it was given", show(asS), show(asA))
		}
		overwrite(s)
		overwrite(a)
		if !slices.Equal(second, want) || !slices.Equal(ahead, want) {
			t.Errorf("what was told is %s and %s by now, not %s", show(second), show(ahead), show(want))
		}
		s, a = read(x[0]), read(x[1])
		behind, ahead, _ = under.Meet(a, s)
		overwrite(ahead)
		if !slices.Equal(behind, wantBehind) || !slices.Equal(s, read(x[0])) || !slices.Equal(a, read(x[1])) {
			t.Errorf("Meet(%s, %s) tells two things in one memory, or what it was given", show(a), show(s))
		}
	}
}

// R7: an operation may stand behind itself, and both be one memory.
func TestBothAreOne(t *testing.T) {
	for _, x := range samples {
		l, as := withRest(read(x))
		want := byWord(l, l)
		wantBehind, _ := over.Of(l, l)
		if got, e := under.Of(l, l); e != api.OK || !slices.Equal(got, want) {
			t.Errorf("Of twice %s = %s, %d", show(l), show(got), e)
		}
		if behind, ahead, e := under.Meet(l, l); e != api.OK || !slices.Equal(behind, wantBehind) || !slices.Equal(ahead, want) {
			t.Errorf("Meet twice %s = %s, %s, %d", show(l), show(behind), show(ahead), e)
		}
		if !slices.Equal(l[:cap(l)], as) {
			t.Errorf("Of, or Meet, changed %s", show(l))
		}
	}
}

// R2 and R6: an error in between changes nothing of what is told next.
func TestAnErrorChangesNothing(t *testing.T) {
	s, a := read("+x d1 k1 +y"), read("+a k1 +b d1")
	for _, x := range wrong {
		checkFails(t, row(put("left"), keep(1), x.s), a, x.code)
		checkFails(t, s, row(put("left"), keep(1), x.s), x.code)
		checkFails(t, s, row(keep(4)), api.ErrLen)
		checkBoth(t, s, a, read("+x k1 d1 k1 +y"))
	}
}
