package compose_test

import (
	"fmt"
	"math"
	"math/rand"
	"slices"
	"strconv"
	"strings"
	"testing"

	"epitome/api"
	"epitome/apply"
	"epitome/compose"
	"epitome/normal"
	"epitome/op"
)

// most is the greatest number that an operation may take: 2^20, written out anew.
const most = 1048576

func keep(n int) api.Span { return api.Span{Kind: 1, N: n} }

func put(text string) api.Span { return api.Span{Kind: 2, Text: text} }

func drop(n int) api.Span { return api.Span{Kind: 3, N: n} }

func row(l ...api.Span) []api.Span { return l }

// empties are the empty spans, one of each kind.
var empties = row(keep(0), put(""), drop(0))

// read is an operation that is written down: k and a number keep so many, d and a number drop so many, + and a text put that.
func read(s string) []api.Span {
	var l []api.Span
	for _, word := range strings.Fields(s) {
		n, _ := strconv.Atoi(word[1:])
		switch word[0] {
		case 'k':
			l = append(l, keep(n))
		case 'd':
			l = append(l, drop(n))
		case '+':
			l = append(l, put(word[1:]))
		}
	}
	return l
}

// points are code points of one, two, three and four bytes; U+FFFD, U+0000 and one that stands on the one ahead are among them.
var points = []string{"a", "\xC3\xA9", "\xE2\x82\xAC", "\xF0\x9F\x98\x80", "\x00", "\xEF\xBF\xBD", "\xCC\x81", "\xF4\x8F\xBF\xBF", "\x7F", "\xED\x9F\xBF"}

// wrong are spans that may not be, each with its error.
var wrong = []struct {
	s    api.Span
	code api.Errno
}{
	{api.Span{}, api.ErrKind},
	{api.Span{Kind: 4, N: 7}, api.ErrKind},
	{api.Span{Kind: -1, N: 5, Text: "a"}, api.ErrKind},
	{api.Span{Kind: math.MinInt, N: math.MaxInt, Text: "\xFF"}, api.ErrKind},
	{keep(-1), api.ErrSize},
	{keep(most + 1), api.ErrSize},
	{keep(math.MaxInt), api.ErrSize},
	{drop(-2), api.ErrSize},
	{drop(most + 1), api.ErrSize},
	{drop(math.MinInt), api.ErrSize},
	{api.Span{Kind: 1, N: -3, Text: "a"}, api.ErrSize},
	{api.Span{Kind: 2, N: 1, Text: "abc"}, api.ErrSize},
	{api.Span{Kind: 2, N: -1, Text: "\xC3"}, api.ErrSize},
	{api.Span{Kind: 1, N: 1, Text: "a"}, api.ErrText},
	{api.Span{Kind: 3, N: 1, Text: "ab"}, api.ErrText},
	{api.Span{Kind: 1, Text: "\xFF"}, api.ErrText},
	{put("a\xFF"), api.ErrText},
	{put("\xED\xA0\x80"), api.ErrText},
}

// show is a row to be read, with no more than the beginnings of its texts.
func show(l []api.Span) string {
	short := slices.Clone(l[:min(len(l), 12)])
	for i := range short {
		short[i].Text = short[i].Text[:min(len(short[i].Text), 20)]
	}
	return fmt.Sprintf("%d: %+q", len(l), fmt.Sprint(short))
}

// withRest is l in a memory that goes on behind it, and that memory as it is.
func withRest(l []api.Span) (given, as []api.Span) {
	const behind = 3
	given = make([]api.Span, len(l), len(l)+behind)
	copy(given, l)
	copy(given[len(l):cap(given)], row(keep(11), put("rest"), drop(13)))
	return given, slices.Clone(given[:cap(given)])
}

// ask holds what Of tells against what is wanted of it. It asks twice: what was told once must not come to be another thing; what was handed in, and what stands behind it in its memory, stays as it was.
func ask(t *testing.T, a, b, want []api.Span, code api.Errno) {
	t.Helper()
	x, asX := withRest(a)
	y, asY := withRest(b)
	for range 2 {
		if got, e := compose.Of(x, y); !slices.Equal(got, want) || e != code {
			t.Errorf("Of(%s, %s) = %s, %d, want %s, %d", show(a), show(b), show(got), e, show(want), code)
		}
	}
	if !slices.Equal(x[:cap(x)], asX) || !slices.Equal(y[:cap(y)], asY) {
		t.Errorf("Of changed %s or %s", show(a), show(b))
	}
}

// check holds two operations, and their shortest forms, against what they come to, which is in its shortest form, takes what the first one takes, and gives what the second one gives.
func check(t *testing.T, a, b, want []api.Span) {
	t.Helper()
	if !normal.Is(want) || op.In(want) != op.In(a) || op.Out(want) != op.Out(b) || op.Out(a) != op.In(b) {
		t.Fatalf("what is wanted of %s and %s is wrong: %s", show(a), show(b), show(want))
	}
	for _, x := range [][]api.Span{a, normal.Of(a)} {
		for _, y := range [][]api.Span{b, normal.Of(b)} {
			ask(t, x, y, want, api.OK)
		}
	}
}

// checkFails holds two operations to the error of theirs; with the error nothing else is told.
func checkFails(t *testing.T, a, b []api.Span, code api.Errno) {
	t.Helper()
	ask(t, a, b, nil, code)
}

// places is an operation by its places: what becomes of each code point that it takes, and what is put in each gap, a code point each.
type places struct {
	put  [][]string
	gone []bool
}

func placesOf(l []api.Span) places {
	p := places{put: make([][]string, 1)}
	for _, s := range l {
		for range s.N {
			p.put, p.gone = append(p.put, nil), append(p.gone, s.Kind == 3)
		}
		last := len(p.put) - 1
		p.put[last] = append(p.put[last], strings.Split(s.Text, "")...)
	}
	return p
}

// least is the least gap of each place of what is given, of which as much or more is given by all that is put up to there, and by the code points ahead that are not dropped.
func (p places) least() []int {
	var least []int
	given := 0
	for gap := range p.put {
		if gap > 0 && !p.gone[gap-1] {
			given++
		}
		for given += len(p.put[gap]); len(least) <= given; {
			least = append(least, gap)
		}
	}
	return least
}

// spans is the shortest operation of these places.
func (p places) spans() []api.Span {
	var l []api.Span
	last := func(kind int) *api.Span {
		if len(l) == 0 || l[len(l)-1].Kind != kind {
			l = append(l, api.Span{Kind: kind})
		}
		return &l[len(l)-1]
	}
	for gap, texts := range p.put {
		for _, text := range texts {
			last(2).Text += text
		}
		if gap == len(p.gone) {
			return l
		}
		if p.gone[gap] {
			last(3).N++
		} else {
			last(1).N++
		}
	}
	return l
}

// stands is what comes to stand in a gap, and where in what the first operation gives: a gap there has twice its number, a code point one more than the gap ahead of it.
type stands struct {
	at   int
	text string
}

// byWord is what two operations come to, by the chapter's own words, place by place.
func byWord(a, b []api.Span) []api.Span {
	first, then := placesOf(a), placesOf(b)
	least := first.least()
	one := places{gone: slices.Clone(first.gone)}
	given := 0
	for gap, texts := range first.put {
		var all []stands
		for _, text := range texts {
			if !then.gone[given] {
				all = append(all, stands{2*given + 1, text})
			}
			given++
		}
		for place, texts := range then.put {
			if least[place] == gap {
				all = append(all, stands{2 * place, strings.Join(texts, "")})
			}
		}
		slices.SortStableFunc(all, func(x, y stands) int { return x.at - y.at })
		var put []string
		for _, x := range all {
			if x.text != "" {
				put = append(put, x.text)
			}
		}
		one.put = append(one.put, put)
		if gap < len(first.gone) && !first.gone[gap] {
			one.gone[gap] = then.gone[given]
			given++
		}
	}
	return one.spans()
}

// checkWord holds two operations against the chapter's own words.
func checkWord(t *testing.T, a, b []api.Span) {
	t.Helper()
	check(t, a, b, byWord(a, b))
}

// checkBoth holds two operations against what is wanted by hand, and that against the chapter's own words.
func checkBoth(t *testing.T, a, b, want []api.Span) {
	t.Helper()
	if w := byWord(a, b); !slices.Equal(w, want) {
		t.Errorf("%s and %s come to %s by the words, and to %s by hand", show(a), show(b), show(w), show(want))
	}
	check(t, a, b, want)
}

// checkAll holds rows of two operations, and of what they come to, that are written down.
func checkAll(t *testing.T, l [][3]string) {
	t.Helper()
	for _, x := range l {
		checkBoth(t, read(x[0]), read(x[1]), read(x[2]))
	}
}

// P9.1 and P9.2: the chapter's examples.
func TestExamples(t *testing.T) {
	checkAll(t, [][3]string{
		{"k2 +x k1", "k1 d1 k2", "k1 d1 +x k1"},
		{"k1 d1 k1", "k1 +x k1", "k1 +x d1 k1"},
	})
}

// P9.2: two operations of no spans come to one of none.
func TestNoSpans(t *testing.T) {
	for _, a := range [][]api.Span{nil, row()} {
		for _, b := range [][]api.Span{nil, row()} {
			checkBoth(t, a, b, nil)
			checkBoth(t, a, row(put("x")), row(put("x")))
			checkBoth(t, row(drop(1)), b, row(drop(1)))
		}
	}
}

// P9.1: a code point that is kept, or put, and then kept, or dropped; and one that is dropped, which nothing is done to any more.
func TestOneCodePoint(t *testing.T) {
	checkAll(t, [][3]string{
		{"k1", "k1", "k1"},
		{"k1", "d1", "d1"},
		{"+x", "k1", "+x"},
		{"+x", "d1", ""},
		{"d1", "", "d1"},
	})
	// One that a puts, and the one next to it that is kept, are told apart by the place at which a gives them.
	checkAll(t, [][3]string{
		{"+x k1", "d1 k1", "k1"},
		{"+x k1", "k1 d1", "+x d1"},
		{"k1 +x", "d1 k1", "d1 +x"},
		{"k1 +x", "k1 d1", "k1"},
		{"d1 +x k1", "d1 k1", "d1 k1"},
		{"d1 +x k1", "k1 d1", "d1 +x d1"},
		{"k1 d1 +x k1", "k1 d1 k1", "k1 d1 k1"},
		{"k1 d1 +x k1", "k2 d1", "k1 d1 +x d1"},
		{"k1 d1 +x k1", "d1 k2", "d2 +x k1"},
	})
}

// samples are operations, each to be put behind others and ahead of them.
var samples = []string{
	"", "k3", "d2", "+xy", "+x k1", "k1 +x", "d1 +x", "+x d1", "k1 d1 k1", "k1 +x d1 k2", "k1 d1 +x k2", "+p d1 +q d1 +r",
	"k2 +\xC3\xA9a d1 k1 d4 +\xF0\x9F\x98\x80 k3", "d1 +x k1 +yz d2 +w k1 +v",
}

// P9.2: what keeps all changes nothing, ahead of another one and behind it.
func TestAllIsKept(t *testing.T) {
	for _, s := range samples {
		l := read(s)
		for _, cut := range []bool{false, true} {
			checkBoth(t, keeps(op.In(l), cut), l, l)
			checkBoth(t, l, keeps(op.Out(l), cut), l)
		}
	}
}

// keeps is an operation that keeps n, by one span or by n.
func keeps(n int, cut bool) []api.Span {
	if cut {
		return slices.Repeat(row(keep(1)), n)
	}
	return row(keep(n))
}

// P9.2: of what is put nothing is left, if all is dropped behind it; and what is then put stands ahead of all that was dropped.
func TestAllIsDropped(t *testing.T) {
	for _, s := range samples {
		l := read(s)
		n := op.Out(l)
		checkBoth(t, l, row(drop(n)), normal.Of(row(drop(op.In(l)))))
		checkBoth(t, l, slices.Repeat(row(drop(1)), n), normal.Of(row(drop(op.In(l)))))
		checkBoth(t, l, row(put("new"), drop(n)), normal.Of(row(put("new"), drop(op.In(l)))))
	}
	checkAll(t, [][3]string{
		{"+xyz", "d3 +n", "+n"},
		{"+xyz k2", "d5 +n", "d2 +n"},
		{"k1 +x k1 +y k1", "d5", "d3"},
		{"+x k2 +y", "d4 +n", "d2 +n"},
		{"+x d2 +y", "d2 +n", "d2 +n"},
		{"+x d2 +y", "d1 +n d1", "+n d2"},
		{"d2", "+n", "+n d2"},
	})
}

// P9.2: of what a puts b drops nothing, its beginning, its middle, its end, or all.
func TestWhatIsPutIsDropped(t *testing.T) {
	for _, x := range [][2]string{
		{"k6", "+abcdef"}, {"d2 k4", "+cdef"}, {"k2 d2 k2", "+abef"}, {"k4 d2", "+abcd"}, {"d6", ""},
		{"d1 k1 d1 k1 d1 k1", "+bdf"}, {"k1 d4 k1", "+af"}, {"d2 k2 d2", "+cd"},
	} {
		b, left := read(x[0]), read(x[1])
		checkBoth(t, row(put("abcdef")), b, left)
		checkBoth(t, row(put("ab"), put("cde"), put("f")), b, left)
		for _, s := range []api.Span{keep(3), drop(3)} {
			around := func(l []api.Span) []api.Span { return slices.Concat(row(s), l, row(s)) }
			stays := row(keep(op.Out(row(s))))
			checkBoth(t, around(row(put("abcdef"))), slices.Concat(stays, b, stays), normal.Of(around(left)))
		}
	}
}

// P9.2: of what a puts b keeps a part, and puts texts inside it.
func TestPutInsideWhatIsPut(t *testing.T) {
	checkAll(t, [][3]string{
		{"+abc", "k1 +y k2", "+aybc"},
		{"+abc", "+x k1 +y k1 +z k1 +w", "+xaybzcw"},
		{"+abc", "k1 +y d1 k1", "+ayc"},
		{"+abc", "k1 d1 +y k1", "+ayc"},
		{"+abc", "d1 +y k1 d1", "+yb"},
		{"+abc", "d1 +y d1 +z d1", "+yz"},
		{"+abc", "+x d3 +y", "+xy"},
		{"k1 +abc k1", "k2 +y d1 k2", "k1 +ayc k1"},
		{"d1 +abc d1", "k1 +y k1 +z d1", "d1 +aybz d1"},
		{"d1 +abc d1", "+x d1 +y k1 d1 +z", "+x d1 +ybz d1"},
	})
}

// P9.2: code points of what is put are cut, not bytes.
func TestCodePointsAreCut(t *testing.T) {
	all := strings.Join(points, "")
	for i, p := range points {
		n := len(points) - i - 1
		before, behind := strings.Join(points[:i], ""), strings.Join(points[i+1:], "")
		checkBoth(t, row(put(all)), row(keep(i), drop(1), keep(n)), row(put(before+behind)))
		checkBoth(t, row(put(all)), row(drop(i), keep(1), drop(n)), row(put(p)))
		checkBoth(t, row(put(all)), row(keep(i), put("\xC3\xA9"), keep(1), put(p), keep(n)), row(put(before+"\xC3\xA9"+p+p+behind)))
		for _, q := range points {
			checkBoth(t, row(keep(1), put(p+q+p)), row(keep(2), drop(1), keep(1)), row(keep(1), put(p+p)))
			checkBoth(t, row(put(p+q), drop(1), put(q+p)), row(drop(1), keep(2), put(p+q), drop(1)), row(put(q), drop(1), put(q+p+q)))
		}
	}
}

// P9.2: what b puts right behind a code point that a gives, kept or put by a, where a drops something behind it, puts something there, or does both, in either order.
func TestPutBehindWhatIsGiven(t *testing.T) {
	checkAll(t, [][3]string{
		{"k1 d1", "k1 +y", "k1 +y d1"},
		{"k1 d2 k1", "k1 +y k1", "k1 +y d2 k1"},
		{"k1 +x", "k1 +y k1", "k1 +yx"},
		{"k1 +x", "k2 +y", "k1 +xy"},
		{"k1 +x k1", "k1 +y k2", "k1 +yx k1"},
		{"k1 +x k1", "k2 +y k1", "k1 +xy k1"},
		{"k1 +x d1", "k1 +y k1", "k1 +yx d1"},
		{"k1 +x d1", "k2 +y", "k1 +xy d1"},
		{"k1 d1 +x", "k1 +y k1", "k1 +y d1 +x"},
		{"k1 d1 +x", "k2 +y", "k1 d1 +xy"},
		{"k1 d1 +x d1 k1", "k1 +y k2", "k1 +y d1 +x d1 k1"},
		{"k1 d1 +x d1 k1", "k2 +y k1", "k1 d1 +xy d1 k1"},
		{"k1 +x d1 +z", "k2 +y k1", "k1 +xy d1 +z"},
		{"+w d1", "k1 +y", "+wy d1"},
		{"+w d1 +x", "k1 +y k1", "+wy d1 +x"},
		{"+w k1 d1 +x", "k1 +v k1 +y k1", "+wv k1 +y d1 +x"},
	})
	// The same, if b drops what a gives ahead, or behind.
	checkAll(t, [][3]string{
		{"k1 d1", "d1 +y", "d1 +y d1"},
		{"k1 d1 +x", "d1 +y k1", "d1 +y d1 +x"},
		{"k1 d1 +x", "k1 +y d1", "k1 +y d1"},
		{"k1 d1 +x", "k1 d1 +y", "k1 d1 +y"},
		{"k1 +x d1", "k1 +y d1", "k1 +y d1"},
		{"k1 +x d1", "k1 d1 +y", "k1 +y d1"},
		{"k1 d1 +x k1", "k2 +y d1", "k1 d1 +xy d1"},
	})
}

// P9.2: what b puts where a drops something at the very beginning, or at the end.
func TestPutAtTheEnds(t *testing.T) {
	checkAll(t, [][3]string{
		{"d1 k1", "+y k1", "+y d1 k1"},
		{"d3 k1", "+y k1", "+y d3 k1"},
		{"k1 d1", "k1 +y", "k1 +y d1"},
		{"k1 d3", "k1 +y", "k1 +y d3"},
		{"d1", "+y", "+y d1"},
		{"d1 k1 d1", "+y k1 +z", "+y d1 k1 +z d1"},
		{"d1 +x k1", "+y k2", "+y d1 +x k1"},
		{"+x d1 k1", "+y k2", "+yx d1 k1"},
		{"k1 d1 +x", "k2 +y", "k1 d1 +xy"},
		{"k1 +x d1", "k2 +y", "k1 +xy d1"},
		{"+x d1 +w", "+y k2 +z", "+yx d1 +wz"},
	})
}

// P9.2: of gaps with nothing between them but what is dropped b puts in the first one, if a puts nothing there, and in the one at which a puts, if it does.
func TestGapsWithNothingBetween(t *testing.T) {
	checkAll(t, [][3]string{
		{"d2", "+y", "+y d2"},
		{"k1 d3 k1", "k1 +y k1", "k1 +y d3 k1"},
		{"d1 +x d1", "k1 +y", "d1 +xy d1"},
		{"d1 +x d1", "+y k1", "+y d1 +x d1"},
		{"d1 +x d1", "d1 +y", "d1 +y d1"},
		{"d1 +x d1", "+y d1", "+y d2"},
		{"k1 d2 +x d2 k1", "k2 +y k1", "k1 d2 +xy d2 k1"},
		{"k1 d2 +x d2 k1", "k1 d1 +y k1", "k1 d2 +y d2 k1"},
		{"d1 +x d1 +z", "k1 +y k1", "d1 +xy d1 +z"},
		{"d1 +x d1 +z", "k2 +y", "d1 +x d1 +zy"},
		{"d1 +x d1 +z", "d1 +y d1", "d1 +y d1"},
		{"d1 +x d1 +z", "d2 +y", "d2 +y"},
		{"d1 +xw d1", "k1 +y k1", "d1 +xyw d1"},
		{"d1 +xw d1", "d1 +y d1", "d1 +y d1"},
	})
	// What b drops of what a keeps is between two gaps all the same.
	checkAll(t, [][3]string{
		{"k2", "d1 +y d1", "d1 +y d1"},
		{"k2", "d2 +y", "d2 +y"},
		{"k2", "+y d2", "+y d2"},
		{"k1 d1 k1", "d1 +y d1", "d1 +y d2"},
		{"k1 d1 k1", "d2 +y", "d3 +y"},
	})
}

// P9.2: two texts that come to one gap, one of a and one of b, stand there in the order of the places.
func TestTwoTextsInOneGap(t *testing.T) {
	checkAll(t, [][3]string{
		{"+x", "+y k1", "+yx"},
		{"+x", "k1 +y", "+xy"},
		{"+x k1", "+y k2", "+yx k1"},
		{"+x k1", "k1 +y k1", "+xy k1"},
		{"k1 +x", "k1 +y k1", "k1 +yx"},
		{"k1 +x", "k2 +y", "k1 +xy"},
		{"+ab d1", "+y k1 +z k1 +w", "+yazbw d1"},
		{"+ab d1", "+y d1 +z k1 +w", "+yzbw d1"},
		{"+ab d1", "+y k1 +z d1 +w", "+yazw d1"},
		{"k1 +ab k1", "k1 +y k1 d1 +z k1", "k1 +yaz k1"},
		{"k1 +ab k1", "d1 +y k1 +w +z k1 k1", "d1 +yawzb k1"},
	})
}

// pairs are operations of which the second one may stand behind the first one.
var pairs = [][2]string{
	{"", ""},
	{"k3", "k1 d1 k1"},
	{"d2", "+x"},
	{"+xyz", "k1 d1 +p k1"},
	{"d1 +x d1", "d1 +y"},
	{"k1 d1 k1", "k1 +x k1"},
	{"k2 +x k1", "k1 d1 k2"},
	{"k2 +\xC3\xA9a\xE2\x82\xAC d1 k1 d4 +y k3", "+p k1 d2 +\xF0\x9F\x98\x80 k1 d2 k2 +q d1 k1 +r"},
}

// P9.2: empty spans of each kind, one and some, at each place of either operation, change nothing.
func TestEmptySpansChangeNothing(t *testing.T) {
	for _, x := range pairs {
		a, b := read(x[0]), read(x[1])
		want := byWord(a, b)
		for _, some := range [][]api.Span{empties[:1], empties[1:2], empties[2:], empties, slices.Repeat(empties, 2)} {
			for i := range len(a) + 1 {
				with := slices.Insert(slices.Clone(a), i, some...)
				checkBoth(t, with, b, want)
				for j := range len(b) + 1 {
					checkBoth(t, with, slices.Insert(slices.Clone(b), j, some...), want)
				}
			}
			for j := range len(b) + 1 {
				checkBoth(t, a, slices.Insert(slices.Clone(b), j, some...), want)
			}
		}
	}
	for _, s := range empties {
		for _, z := range empties {
			checkBoth(t, row(s), row(z), nil)
			checkBoth(t, row(s, drop(1), s), row(z, put("x"), z), read("+x d1"))
		}
	}
}

// cut is an operation in spans of no more than n code points each.
func cut(l []api.Span, n int) []api.Span {
	var pieces []api.Span
	for _, s := range l {
		for s.N > n {
			pieces = append(pieces, api.Span{Kind: s.Kind, N: n})
			s.N -= n
		}
		texts := strings.Split(s.Text, "")
		for len(texts) > n {
			pieces = append(pieces, put(strings.Join(texts[:n], "")))
			texts = texts[n:]
		}
		s.Text = strings.Join(texts, "")
		pieces = append(pieces, s)
	}
	return pieces
}

// P9.2: spans cut at unlike places in both operations come to the same.
func TestSpansAreCutAtUnlikePlaces(t *testing.T) {
	long := row(keep(20), put(strings.Join(points, "")+"0123456789abc"), drop(11), keep(7), drop(2), put("opqrstuvwxyz"), keep(9))
	for _, x := range [][2][]api.Span{
		{long, read("k13 d9 +ABCDEFGH k12 d13 +IJKLM k24")},
		{long, read("d25 +ABC k3 d19 k1 +DEF k23 +GH")},
		{long, read("k71 +A")},
		{read("d13 k50 +" + strings.Repeat("\xC3\xA9x", 11) + " d5 k2"), append(long, keep(25))},
	} {
		want := byWord(x[0], x[1])
		for n := 1; n <= 26; n++ {
			for _, m := range []int{1, 2, 3, 4, 5, 7, 10, 13, 100} {
				check(t, cut(x[0], n), cut(x[1], m), want)
			}
		}
	}
}

// around are spans of which each stands next to wrong ones; all of them may be.
var around = [][]api.Span{nil, row(keep(1)), row(put("a")), row(drop(1)), empties, row(keep(2), put("x"), drop(1))}

// P9.2: op's error of a span that may not be, in a or in b, alone, and first, in the middle and last of others.
func TestOneWrongSpan(t *testing.T) {
	for _, x := range wrong {
		for _, l := range around {
			for _, m := range around {
				bad := slices.Concat(l, row(x.s), m)
				checkFails(t, bad, nil, x.code)
				checkFails(t, bad, row(keep(max(op.Out(bad), 0)%(most+1))), x.code)
				checkFails(t, nil, bad, x.code)
				checkFails(t, row(keep(max(op.In(bad), 0)%(most+1))), bad, x.code)
			}
		}
	}
	checkFails(t, row(put("\xC3"), put("\xA9")), row(keep(1)), api.ErrText)
	checkFails(t, row(keep(1)), row(keep(1), put("\xC3"), put("\xA9")), api.ErrText)
}

// P9.2: of several errors that of a comes first, and in an operation the one further left.
func TestTheFirstErrorIsTold(t *testing.T) {
	tooMuch := row(keep(most), drop(1))
	for _, x := range wrong {
		for _, y := range wrong {
			checkFails(t, row(x.s), row(y.s), x.code)
			checkFails(t, row(keep(3), x.s), row(put("b"), y.s, keep(3)), x.code)
			checkFails(t, row(keep(3), x.s, drop(2), y.s), row(keep(3)), x.code)
			checkFails(t, row(keep(3)), row(keep(3), x.s, drop(2), y.s), x.code)
		}
		checkFails(t, tooMuch, row(x.s), api.ErrBig)
		checkFails(t, row(x.s), tooMuch, x.code)
		checkFails(t, row(keep(most), drop(1), x.s), row(keep(most)), x.code)
		checkFails(t, row(keep(most)), row(keep(most), drop(1), x.s), x.code)
		// And the lengths do not meet, either.
		checkFails(t, row(x.s, keep(5)), row(keep(77)), x.code)
		checkFails(t, row(keep(77)), row(x.s, keep(5)), x.code)
	}
}

// P9.2: what takes more than 2^20 is too big, in a and in b, whether what the other one gives, or takes, meets it or not.
func TestTooMuchIsTaken(t *testing.T) {
	for _, l := range [][]api.Span{
		row(keep(most), keep(1)), row(drop(most), drop(1)), row(keep(1), drop(most)), row(drop(most), keep(most)),
		row(put("x"), keep(most-1), put("y"), drop(2), put("z")),
		slices.Repeat(row(drop(most)), 4096),
	} {
		for _, other := range [][]api.Span{nil, row(keep(1)), row(keep(most)), row(put("x"), drop(1)), l} {
			checkFails(t, l, other, api.ErrBig)
			checkFails(t, other, l, api.ErrBig)
		}
	}
	long := row(keep(most), put("x"))
	checkFails(t, long, row(keep(most), drop(1)), api.ErrBig)
	checkFails(t, long, row(keep(most)), api.ErrLen)
}

// P9.2: lengths that do not meet, one too few and one too many, and what is taken by a, or given by b, does not matter.
func TestLengthsThatDoNotMeet(t *testing.T) {
	for _, s := range samples {
		l := read(s)
		for _, kind := range []func(int) api.Span{keep, drop} {
			in, out := op.In(l), op.Out(l)
			checkFails(t, l, row(kind(out+1)), api.ErrLen)
			checkFails(t, l, row(kind(out), kind(most-out)), api.ErrLen)
			checkFails(t, row(keep(in+1)), l, api.ErrLen)
			checkFails(t, row(kind(3), put(strings.Repeat("\xC3\xA9", in+1)), drop(in)), l, api.ErrLen)
			if out > 0 {
				checkFails(t, l, row(kind(out-1)), api.ErrLen)
				checkFails(t, l, nil, api.ErrLen)
				checkFails(t, l, row(put(strings.Repeat("x", out))), api.ErrLen)
			}
			if in > 0 {
				checkFails(t, row(keep(in-1)), l, api.ErrLen)
				checkFails(t, row(keep(in-1), drop(1)), l, api.ErrLen)
				checkFails(t, row(drop(in)), l, api.ErrLen)
			}
		}
	}
	// Bytes are not what is counted.
	checkFails(t, row(put("\xC3\xA9")), row(keep(2)), api.ErrLen)
	checkFails(t, row(put("\xF0\x9F\x98\x80a")), row(keep(5)), api.ErrLen)
	// What a gives is not bounded, but b takes no more than 2^20 of it.
	checkFails(t, row(put("x"), keep(most)), row(keep(most)), api.ErrLen)
	checkFails(t, row(keep(most)), row(keep(most-1)), api.ErrLen)
}

// short are all operations of so many code points, each kept or dropped by a span of its own, in which so many texts stand anywhere between these: letters from that one on, every other one behind another code point.
func short(takes, puts int, letter byte) [][]api.Span {
	if takes == 0 && puts == 0 {
		return [][]api.Span{nil}
	}
	var all [][]api.Span
	add := func(s api.Span, l [][]api.Span) {
		for _, x := range l {
			all = append(all, append(row(s), x...))
		}
	}
	if takes > 0 {
		add(keep(1), short(takes-1, puts, letter))
		add(drop(1), short(takes-1, puts, letter))
	}
	if puts > 0 {
		text := string(rune(letter))
		if puts%2 == 0 {
			text = "\xC3\xA9" + text
		}
		add(put(text), short(takes, puts-1, letter+1))
	}
	return all
}

// upTo are all that short tells of so many texts, and fewer.
func upTo(takes, puts int, letter byte) [][]api.Span {
	var all [][]api.Span
	for n := range puts + 1 {
		all = append(all, short(takes, n, letter)...)
	}
	return all
}

// P9.1, P9.2 and P9.3: all short operations of a short text, and all short ones behind them: against the chapter's own words, and what they do to a text.
func TestAllShortOnes(t *testing.T) {
	const text = "\xE2\x82\xAC12"
	for takes := range 4 {
		s, _ := apply.All(text, row(keep(takes), drop(3-takes)))
		for _, a := range upTo(takes, 2, 'p') {
			for _, b := range upTo(op.Out(a), 2, 'A') {
				checkWord(t, a, b)
				one, e := compose.Of(a, b)
				got, e1 := apply.To(one, s)
				both, e2 := apply.All(s, a, b)
				if got != both || e != api.OK || e1 != api.OK || e2 != api.OK {
					t.Errorf("%s gives %+q, and %s and %s give %+q", show(one), got, show(a), show(b), both)
				}
				if t.Failed() {
					return
				}
			}
		}
	}
}

// made is what two operations come to, of which the test knows that it may be.
func made(t *testing.T, a, b []api.Span) []api.Span {
	t.Helper()
	l, e := compose.Of(a, b)
	if e != api.OK || !normal.Is(l) {
		t.Fatalf("Of(%s, %s) = %s, %d", show(a), show(b), show(l), e)
	}
	return l
}

// checkThree holds three operations to P9.3: which two are made one first does not matter, span by span.
func checkThree(t *testing.T, a, b, c []api.Span) {
	t.Helper()
	left := made(t, made(t, a, b), c)
	right := made(t, a, made(t, b, c))
	if !slices.Equal(left, right) {
		t.Fatalf("%s, %s and %s come to %s, and to %s", show(a), show(b), show(c), show(left), show(right))
	}
}

// P9.3: of three operations it does not matter which two are made one first: all short ones.
func TestThreeOperations(t *testing.T) {
	for _, puts := range [][3]int{{1, 1, 1}, {2, 1, 1}, {1, 2, 1}, {1, 1, 2}} {
		for takes := range 3 {
			for _, a := range upTo(takes, puts[0], 'p') {
				for _, b := range upTo(op.Out(a), puts[1], 'A') {
					for _, c := range upTo(op.Out(b), puts[2], '0') {
						checkThree(t, a, b, c)
					}
				}
			}
		}
	}
}

// anyOf is an operation that takes n, of the numbers that r tells, which are the same ones each time.
func anyOf(r *rand.Rand, n int) []api.Span {
	var l []api.Span
	for n > 0 || r.Intn(3) > 0 {
		many := min(r.Intn(6), n)
		switch r.Intn(4) {
		case 0:
			l = append(l, keep(many))
		case 1:
			l = append(l, drop(many))
		case 2:
			n += many
			text := ""
			for range r.Intn(5) {
				text += points[r.Intn(len(points))] + string(rune('A'+r.Intn(26)))
			}
			l = append(l, put(text))
		default:
			l = append(l, empties[r.Intn(3)])
			n += many
		}
		n -= many
	}
	return l
}

// P9.1, P9.2 and P9.3: longer operations, of spans of all kinds and lengths in many orders.
func TestLongerOnes(t *testing.T) {
	r := rand.New(rand.NewSource(9))
	for range 3000 {
		a := anyOf(r, r.Intn(30))
		b := anyOf(r, op.Out(a))
		c := anyOf(r, op.Out(b))
		checkWord(t, a, b)
		checkWord(t, b, c)
		checkThree(t, a, b, c)
		s := strings.Join(slices.Repeat(points, 3)[:op.In(a)], "")
		both, _ := apply.All(s, a, b)
		if got, e := apply.To(made(t, a, b), s); got != both || e != api.OK {
			t.Errorf("of %s and %s %+q is given, not %+q", show(a), show(b), got, both)
		}
		if t.Failed() {
			return
		}
	}
}

// P9.2: operations that take very many code points, in few spans.
func TestVeryManyCodePoints(t *testing.T) {
	const half = most / 2
	long := strings.Repeat("\xC3\xA9\xF0\x9F\x98\x80", half)
	for _, x := range [][3][]api.Span{
		{row(keep(most)), row(keep(most)), row(keep(most))},
		{row(keep(most)), row(drop(most)), row(drop(most))},
		{row(drop(most)), row(put("x")), row(put("x"), drop(most))},
		{row(drop(most)), nil, row(drop(most))},
		{row(keep(most)), row(keep(1), put("x"), drop(most-2), keep(1)), row(keep(1), put("x"), drop(most-2), keep(1))},
		{row(keep(half), drop(1), keep(half-1)), row(keep(half), put("x"), drop(half-1)), row(keep(half), put("x"), drop(half))},
		{row(drop(most-1), keep(1)), row(put("y"), keep(1), put("x")), row(put("y"), drop(most-1), keep(1), put("x"))},
		{row(keep(half-1), put("xy"), keep(half-1)), row(drop(half), keep(half)), row(drop(half-1), put("y"), keep(half-1))},
		{row(put(long)), row(keep(most)), row(put(long))},
		{row(put(long)), row(drop(most)), nil},
		{row(put(long), drop(most)), row(keep(half), drop(half)), row(put(long[:3*half]), drop(most))},
		{row(drop(most), put(long)), row(put(long), drop(half), keep(half)), row(put(long), drop(most), put(long[3*half:]))},
		// What is given is not bounded.
		{row(keep(most)), row(put(long), keep(most), put(long)), row(put(long), keep(most), put(long))},
		{row(put(long)), row(put(long), keep(most), put(long)), row(put(long + long + long))},
	} {
		check(t, x[0], x[1], x[2])
	}
}

// P9.2: very many spans: to begin anew for each of them would take all day.
func TestVeryManySpans(t *testing.T) {
	const times = most / 4
	long := strings.Repeat("\xC3\xA9\xF0\x9F\x98\x80", times)
	many := func(s string) []api.Span { return slices.Repeat(read(s), times) }
	for _, x := range [][3][]api.Span{
		{many("k1 +x d1"), many("d1 k1"), slices.Concat(read("d1"), slices.Repeat(read("+x d2"), times-1), read("+x d1"))},
		{many("k1 +x d1"), many("k1 +y k1"), many("k1 +yx d1")},
		{many("d1 +x k1"), row(keep(2 * times)), many("d1 +x k1")},
		{row(keep(2 * times)), many("d1 +x k1"), many("d1 +x k1")},
		{many("d1 +x d1"), many("d1"), row(drop(2 * times))},
		{many("d1 +x d1"), many("+y d1"), slices.Concat(read("+y d1"), slices.Repeat(read("+y d2"), times-2), read("+y d3"))},
		{row(put(long)), many("k1 d1"), row(put(strings.Repeat("\xC3\xA9", times)))},
		{row(put(long)), many("+x d1 k1"), row(put(strings.Repeat("x\xF0\x9F\x98\x80", times)))},
		{many("+ab"), row(drop(1), keep(2*times-2), drop(1)), row(put(strings.Repeat("ba", times-1)))},
		{many("k1 k1 +"), many("d0 k1 + k1"), row(keep(2 * times))},
	} {
		if got, e := compose.Of(x[0], x[1]); !slices.Equal(got, x[2]) || e != api.OK {
			t.Errorf("Of(%s, %s) = %s, %d, want %s", show(x[0]), show(x[1]), show(got), e, show(x[2]))
		}
	}
}

// overwrite writes into all of a row's memory.
func overwrite(l []api.Span) {
	l = l[:cap(l)]
	for i := range l {
		l[i] = api.Span{Kind: 1, N: 99, Text: "over"}
	}
}

// R7: what is told is the caller's own: neither what was handed in, nor what was told of it before, sees what becomes of it, nor the other way about.
func TestWhatIsToldIsTheCallersOwn(t *testing.T) {
	for _, x := range slices.Concat(pairs, [][2]string{{"k2 +x d1", "k3"}, {"k3", "k2 +x d1"}, {"+x", "k1"}, {"", "+x"}, {"d1", ""}}) {
		want := byWord(read(x[0]), read(x[1]))
		a, asA := withRest(read(x[0]))
		b, asB := withRest(read(x[1]))
		first, second := made(t, a, b), made(t, a, b)
		overwrite(first)
		if !slices.Equal(a[:cap(a)], asA) || !slices.Equal(b[:cap(b)], asB) {
			t.Errorf("Of(%s, %s) tells memory that it was given", show(asA), show(asB))
		}
		overwrite(a)
		overwrite(b)
		if !slices.Equal(second, want) {
			t.Errorf("what was told is %s by now, not %s", show(second), show(want))
		}
	}
}

// R7: an operation may stand behind itself, and both be one memory.
func TestBothAreOne(t *testing.T) {
	for _, s := range []string{"", "k3", "+x d1", "d1 +x", "k1 +x d1 k1", "+xy k1 d2", "d1 k1 +\xC3\xA9 k2"} {
		l, as := withRest(read(s))
		if got, e := compose.Of(l, l); e != api.OK || !slices.Equal(got, byWord(l, l)) {
			t.Errorf("Of twice %s = %s, %d", show(l), show(got), e)
		}
		if !slices.Equal(l[:cap(l)], as) {
			t.Errorf("Of changed %s", show(l))
		}
	}
}

// R2 and R6: an error in between changes nothing of what is told next.
func TestAnErrorChangesNothing(t *testing.T) {
	a, b := read("+a d1 k1 +b"), read("k1 +x d1 k1")
	for _, x := range wrong {
		checkFails(t, row(put("left"), keep(1), x.s), b, x.code)
		checkFails(t, a, row(put("left"), keep(1), x.s), x.code)
		checkFails(t, a, row(keep(4)), api.ErrLen)
		checkBoth(t, a, b, read("+ax d2 +b"))
	}
}
