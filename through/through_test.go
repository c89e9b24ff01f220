package through_test

import (
	"fmt"
	"math"
	"math/rand"
	"slices"
	"strconv"
	"strings"
	"testing"

	"epitome/api"
	"epitome/apply"
	"epitome/fuse"
	"epitome/normal"
	"epitome/op"
	"epitome/over"
	"epitome/through"
	"epitome/under"
)

// most is the greatest number that an operation may take: 2^20, written out anew.
const most = 1048576

func keep(n int) api.Span { return api.Span{Kind: 1, N: n} }

func put(text string) api.Span { return api.Span{Kind: 2, Text: text} }

func drop(n int) api.Span { return api.Span{Kind: 3, N: n} }

func row(l ...api.Span) []api.Span { return l }

// empties are the empty spans, one of each kind.
var empties = row(keep(0), put(""), drop(0))

// read is an operation that is written down: k and a number keep so many, d and a number drop so many, + and a text put that.
func read(s string) []api.Span {
	var l []api.Span
	for _, word := range strings.Fields(s) {
		n, _ := strconv.Atoi(word[1:])
		switch word[0] {
		case 'k':
			l = append(l, keep(n))
		case 'd':
			l = append(l, drop(n))
		case '+':
			l = append(l, put(word[1:]))
		}
	}
	return l
}

// reads are operations that are written down.
func reads(l ...string) [][]api.Span {
	var all [][]api.Span
	for _, s := range l {
		all = append(all, read(s))
	}
	return all
}

// points are code points of one, two, three and four bytes; U+FFFD, U+0000 and one that stands on the one ahead are among them.
var points = []string{"a", "\xC3\xA9", "\xE2\x82\xAC", "\xF0\x9F\x98\x80", "\x00", "\xEF\xBF\xBD", "\xCC\x81", "\xF4\x8F\xBF\xBF", "\x7F", "\xED\x9F\xBF"}

// wrong are spans that may not be, each with its error.
var wrong = []struct {
	s    api.Span
	code api.Errno
}{
	{api.Span{}, api.ErrKind},
	{api.Span{Kind: 4, N: 7}, api.ErrKind},
	{api.Span{Kind: -1, N: 5, Text: "a"}, api.ErrKind},
	{api.Span{Kind: math.MinInt, N: math.MaxInt, Text: "\xFF"}, api.ErrKind},
	{keep(-1), api.ErrSize},
	{keep(most + 1), api.ErrSize},
	{keep(math.MaxInt), api.ErrSize},
	{drop(-2), api.ErrSize},
	{drop(most + 1), api.ErrSize},
	{drop(math.MinInt), api.ErrSize},
	{api.Span{Kind: 1, N: -3, Text: "a"}, api.ErrSize},
	{api.Span{Kind: 2, N: 1, Text: "abc"}, api.ErrSize},
	{api.Span{Kind: 2, N: -1, Text: "\xC3"}, api.ErrSize},
	{api.Span{Kind: 1, N: 1, Text: "a"}, api.ErrText},
	{api.Span{Kind: 3, N: 1, Text: "ab"}, api.ErrText},
	{api.Span{Kind: 1, Text: "\xFF"}, api.ErrText},
	{put("a\xFF"), api.ErrText},
	{put("\xED\xA0\x80"), api.ErrText},
}

// show is a row to be read, with no more than the beginnings of its texts.
func show(l []api.Span) string {
	short := slices.Clone(l[:min(len(l), 12)])
	for i := range short {
		short[i].Text = short[i].Text[:min(len(short[i].Text), 20)]
	}
	return fmt.Sprintf("%d: %+q", len(l), fmt.Sprint(short))
}

// showAll are rows to be read, no more than the first and last ones.
func showAll(l [][]api.Span) string {
	var s []string
	for i, x := range l {
		if i < 6 || i > len(l)-3 {
			s = append(s, show(x))
		}
	}
	return strconv.Itoa(len(l)) + " operations: " + strings.Join(s, " | ")
}

// withRest is l in a memory that goes on behind it, and that memory as it is.
func withRest(l []api.Span) (given, as []api.Span) {
	const behind = 3
	given = make([]api.Span, len(l), len(l)+behind)
	copy(given, l)
	copy(given[len(l):cap(given)], row(keep(11), put("rest"), drop(13)))
	return given, slices.Clone(given[:cap(given)])
}

// given are operations, each in a memory that goes on behind it, as theirs does; and all that memory as it is.
func given(l [][]api.Span) (given, as [][]api.Span) {
	const behind = 2
	given = make([][]api.Span, len(l), len(l)+behind)
	for i, x := range l {
		var y []api.Span
		given[i], y = withRest(x)
		as = append(as, y)
	}
	copy(given[len(l):cap(given)], [][]api.Span{read("k5"), read("+rest d9")})
	return given, append(as, read("k5"), read("+rest d9"))
}

// unchanged tells whether all memory that given told is as it was.
func unchanged(l, as [][]api.Span) bool {
	return slices.EqualFunc(l[:cap(l)], as, func(x, y []api.Span) bool { return slices.Equal(x[:cap(x)], y) })
}

// call is Of, or Patch.
type call func(a []api.Span, l ...[]api.Span) ([]api.Span, api.Errno)

// oneByOne asks with the operations handed in one by one, if these are few, and else as a slice.
func (c call) oneByOne(a []api.Span, l [][]api.Span) ([]api.Span, api.Errno) {
	switch len(l) {
	case 0:
		return c(a)
	case 1:
		return c(a, l[0])
	case 2:
		return c(a, l[0], l[1])
	case 3:
		return c(a, l[0], l[1], l[2])
	}
	return c(a, l...)
}

// ask holds what Of and Patch tell against what is wanted of them. It asks twice: what was told once must not come to be another thing; what was handed in, and what stands behind it in its memory, stays as it was.
func ask(t *testing.T, a []api.Span, l [][]api.Span, want, patch []api.Span, code api.Errno) {
	t.Helper()
	x, asX := withRest(a)
	y, asY := given(l)
	for range 2 {
		if got, e := call(through.Of).oneByOne(x, y); !slices.Equal(got, want) || e != code {
			t.Errorf("Of(%s, %s) = %s, %d, want %s, %d", show(a), showAll(l), show(got), e, show(want), code)
		}
		if got, e := through.Of(x, y...); !slices.Equal(got, want) || e != code {
			t.Errorf("Of(%s, %s...) = %s, %d, want %s, %d", show(a), showAll(l), show(got), e, show(want), code)
		}
		if got, e := call(through.Patch).oneByOne(x, y); !slices.Equal(got, patch) || e != code {
			t.Errorf("Patch(%s, %s) = %s, %d, want %s, %d", show(a), showAll(l), show(got), e, show(patch), code)
		}
		if got, e := through.Patch(x, y...); !slices.Equal(got, patch) || e != code {
			t.Errorf("Patch(%s, %s...) = %s, %d, want %s, %d", show(a), showAll(l), show(got), e, show(patch), code)
		}
	}
	if !slices.Equal(x[:cap(x)], asX) || !unchanged(y, asY) {
		t.Errorf("Of or Patch changed %s or %s", show(a), showAll(l))
	}
}

// gives is how many code points the last one of l gives; what a takes, if there is none.
func gives(a []api.Span, l [][]api.Span) int {
	if len(l) == 0 {
		return op.In(a)
	}
	return op.Out(l[len(l)-1])
}

// check holds an operation, and those that come first, against what is wanted of Of and of Patch: both are in their shortest forms, Of takes what the last one gives, Patch what a gives, and both give as many.
func check(t *testing.T, a []api.Span, l [][]api.Span, want, patch []api.Span) {
	t.Helper()
	if !normal.Is(want) || op.In(want) != gives(a, l) || !normal.Is(patch) || op.In(patch) != op.Out(a) || op.Out(want) != op.Out(patch) {
		t.Fatalf("what is wanted of %s and %s is wrong: %s, %s", show(a), showAll(l), show(want), show(patch))
	}
	ask(t, a, l, want, patch, api.OK)
}

// checkFails holds an operation, and those that come first, to the error of theirs; with the error nothing else is told.
func checkFails(t *testing.T, a []api.Span, l [][]api.Span, code api.Errno) {
	t.Helper()
	ask(t, a, l, nil, nil, code)
}

// behind is what an operation is behind those that come first, by the chapter's own words: behind the first one of them, that behind the next one, and so on.
func behind(t *testing.T, a []api.Span, l [][]api.Span) []api.Span {
	t.Helper()
	a = normal.Of(a)
	for _, s := range l {
		next, e := over.Of(a, s)
		if e != api.OK {
			t.Fatalf("over.Of(%s, %s) tells %d", show(a), show(s), e)
		}
		a = next
	}
	return a
}

// ahead is what those that come first are behind an operation, by the chapter's own words: what they come to, made one from the left, behind that.
func ahead(t *testing.T, a []api.Span, l [][]api.Span) []api.Span {
	t.Helper()
	s, e := fuse.Of(op.In(a), l...)
	if e != api.OK {
		t.Fatalf("fuse.Of(%d, %s) tells %d", op.In(a), showAll(l), e)
	}
	patch, e := under.Of(s, a)
	if e != api.OK {
		t.Fatalf("under.Of(%s, %s) tells %d", show(s), show(a), e)
	}
	return patch
}

// textOf is a text of n code points.
func textOf(n int) string {
	return strings.Join(slices.Repeat(points, n/len(points)+1)[:n], "")
}

// meet holds what is told of an operation, and those that come first, to P13.3: a text comes to be the same, whichever way it goes.
func meet(t *testing.T, a []api.Span, l [][]api.Span, want, patch []api.Span) {
	t.Helper()
	text := textOf(op.In(a))
	x, e := apply.All(text, append(slices.Clone(l), want)...)
	y, f := apply.All(text, a, patch)
	if x != y || e != api.OK || f != api.OK {
		t.Errorf("%+q does not meet: %s and then %s give %+q, %d; %s and then %s give %+q, %d", text, showAll(l), show(want), x, e, show(a), show(patch), y, f)
	}
}

// checkWord holds an operation, and those that come first, against the chapter's own words, and P13.3.
func checkWord(t *testing.T, a []api.Span, l [][]api.Span) {
	t.Helper()
	want, patch := behind(t, a, l), ahead(t, a, l)
	check(t, a, l, want, patch)
	meet(t, a, l, want, patch)
}

// checkBoth holds an operation, and those that come first, against what is wanted by hand, and that against the chapter's own words.
func checkBoth(t *testing.T, a []api.Span, l [][]api.Span, want, patch []api.Span) {
	t.Helper()
	if w, p := behind(t, a, l), ahead(t, a, l); !slices.Equal(w, want) || !slices.Equal(p, patch) {
		t.Errorf("%s and %s come to %s and %s by the words, and to %s and %s by hand", show(a), showAll(l), show(w), show(p), show(want), show(patch))
	}
	check(t, a, l, want, patch)
	meet(t, a, l, want, patch)
}

// sample is an operation, and those that come first, as they are written down, and what comes of them.
type sample struct {
	a           string
	l           [][]api.Span
	want, patch string
}

func checkAll(t *testing.T, all []sample) {
	t.Helper()
	for _, x := range all {
		checkBoth(t, read(x.a), x.l, read(x.want), read(x.patch))
	}
}

// P13.1, P13.2 and P13.3: the chapter's example.
func TestExample(t *testing.T) {
	checkAll(t, []sample{{"+y k1", reads("+x k1", "d1 k1"), "+y k1", "k2"}})
}

// samples are operations, each to be put behind others.
var samples = []string{
	"", "k3", "d2", "+xy", "+x k1", "k1 +x", "d1 +x", "+x d1", "k1 d1 k1", "k1 +x d1 k2", "k1 d1 +x k2", "+p d1 +q d1 +r",
	"k2 +\xC3\xA9a d1 k1 d4 +\xF0\x9F\x98\x80 k3", "d1 +x k1 +yz d2 +w k1 +v",
}

// P13.1 and P13.2: behind none an operation is its own shortest form, and the patch keeps all that it gives.
func TestNoOperations(t *testing.T) {
	for _, x := range samples {
		a := read(x)
		all := normal.Of(row(keep(op.Out(a))))
		for _, none := range [][][]api.Span{nil, {}} {
			checkBoth(t, a, none, normal.Of(a), all)
			for i := range len(a) + 1 {
				checkBoth(t, slices.Insert(slices.Clone(a), i, empties...), none, normal.Of(a), all)
			}
		}
	}
	checkAll(t, []sample{
		{"k1 k1 d1 d2 +a +b +", nil, "k2 d3 +ab", "k4"},
		{"k1 k0 d0 k1 + k1", nil, "k3", "k3"},
		{"+a k0 +b", nil, "+ab", "k2"},
	})
	checkBoth(t, empties, nil, nil, nil)
	// More than a text may have may be given, and the patch keeps it.
	check(t, row(keep(most), put("xy")), nil, row(keep(most), put("xy")), row(keep(most+2)))
}

// others are operations that take n.
func others(n int) [][]api.Span {
	half := n / 2
	return [][]api.Span{
		row(keep(n)), row(drop(n)), row(put("A"), keep(n)), row(keep(n), put("A")), row(put("A"), drop(n)), row(drop(n), put("A")),
		row(keep(half), put("A"), keep(n-half)), row(keep(half), drop(n-half), put("A")), row(drop(half), put("\xC3\xA9B"), keep(n-half)),
	}
}

// P13.1 and P13.2: behind one it is over.Of of both, and the patch under.Of of both.
func TestOneOperation(t *testing.T) {
	for _, x := range samples {
		a := read(x)
		for _, s := range others(op.In(a)) {
			want, e := over.Of(a, s)
			patch, f := under.Of(s, a)
			if e != api.OK || f != api.OK {
				t.Fatal(show(a), show(s), e, f)
			}
			checkBoth(t, a, [][]api.Span{s}, want, patch)
			checkBoth(t, slices.Concat(empties, a), [][]api.Span{slices.Concat(s, empties)}, want, patch)
		}
	}
	checkAll(t, []sample{
		{"k1 +y k2", reads("k1 +x d1 k1"), "k2 +y k1", "k1 +x k1 d1 k1"},
		{"k1 +y k2", reads("k1 d1 +x k1"), "k1 +y k2", "k2 d1 +x k1"},
		{"k1 d1 k1", reads("d2 +x k1"), "k2", "d1 +x k1"},
		{"", reads("+x"), "k1", "+x"},
		{"+y", reads(""), "+y", "k1"},
	})
}

// P13.1 and P13.2: behind two it is over.Of of the second one of what it is behind the first one.
func TestTwoOperations(t *testing.T) {
	for _, x := range samples {
		a := read(x)
		for _, s := range others(op.In(a)) {
			for _, u := range others(op.Out(s)) {
				checkWord(t, a, [][]api.Span{s, u})
			}
		}
	}
	checkAll(t, []sample{
		// The order in which something is put and dropped at one place is kept.
		{"k1 +y k2", reads("k2 +x k1", "k1 d1 k2"), "k1 +y k2", "k2 d1 +x k1"},
		{"k1 +y k2", reads("k1 d1 k1", "k1 +x k1"), "k2 +y k1", "k1 +x k1 d1 k1"},
		{"k2 +y k1", reads("k2 +x k1", "k1 d1 k2"), "k2 +y k1", "k1 d1 +x k2"},
		{"k2 +y k1", reads("k1 d1 k1", "k1 +x k1"), "k2 +y k1", "k1 +x d1 k2"},
		// What is put and dropped again is not there.
		{"k1 +y k1", reads("k1 +x k1", "k1 d1 k1"), "k1 +y k1", "k3"},
		{"d2", reads("k1 +x k1", "k1 d1 k1"), "d2", ""},
		{"d2", reads("k1 +x k1", "d1 k1 d1"), "k1", "+x"},
		{"d1 k1", reads("k1 d1", "d1"), "", "d1"},
	})
}

// P13.1 and P13.2: behind more of them, by hand.
func TestMoreOperations(t *testing.T) {
	checkAll(t, []sample{
		{"+p k1 +q k1 +r", reads("d2", "+x", "k1 +z"), "k2 +pqr", "+xz k1 d1 k1 d1 k1"},
		{"+p k1 +q k1 +r", reads("+x k2 +z", "k1 d2 k1", "k1 +w k1"), "k2 +pq k1 +r", "+xw k1 d1 k1 d1 +z k1"},
		{"k1 +y", reads("+a k1", "k1 +b k1", "k2 +c k1", "k2 d1 k1", "k1 d1 k1", "d1 k1"), "k1 +y", "k2"},
		{"+y", reads("+a", "k1 +b", "k2 +c", "d1 k2"), "k2 +y", "+bc k1"},
		{"+y", reads("+a", "+b k1", "+c k2", "k1 d1 k1"), "k2 +y", "+ca k1"},
		{"d4", reads("k3 +x k1", "+w k5", "k1 d2 k3", "d1 k3"), "d1 k1 d1", "+x"},
		{"k1 d2 +y k1", reads("k2 +x k2", "k1 d1 k3", "k2 d1 k1", "+v k3"), "k3 +y k1", "+v k1 +x k2"},
	})
}

// P13.1 and P13.2: ties: what the operation puts, and what those that come first put, in one gap.
func TestTies(t *testing.T) {
	checkAll(t, []sample{
		// All that those that come first put stands ahead, wherever in that gap a later one puts it.
		{"k1 +y k1", reads("k1 +x k1", "k1 +w k2"), "k3 +y k1", "k1 +wx k2"},
		{"k1 +y k1", reads("k1 +x k1", "k2 +w k1"), "k3 +y k1", "k1 +xw k2"},
		{"k1 +y k1", reads("k1 +x k1", "k3 +w"), "k2 +y k2", "k1 +x k2 +w"},
		{"k1 +y k1", reads("k1 +x k1", "+w k3"), "k3 +y k1", "+w k1 +x k2"},
		// At the beginning, at the end, and where there is nothing else.
		{"+y k1", reads("+x k1", "+w k2"), "k2 +y k1", "+wx k2"},
		{"+y k1", reads("+x k1", "k1 +w k1"), "k2 +y k1", "+xw k2"},
		{"k1 +y", reads("k1 +x", "k2 +w"), "k3 +y", "k1 +xw k1"},
		{"k1 +y", reads("k1 +x", "k1 +w k1"), "k3 +y", "k1 +wx k1"},
		{"+y", reads("+x", "k1 +w"), "k2 +y", "+xw k1"},
		{"+y", reads("+x", "d1 +w"), "k1 +y", "+w k1"},
		{"+y", reads("+x", "+w d1"), "k1 +y", "+w k1"},
		// Gaps that come to be one since what is between them is dropped, ahead of what is put then, or behind it.
		{"+p k1 +q", reads("d1", "+x"), "k1 +pq", "+x k1 d1 k1"},
		{"+p k1 +q", reads("+x k1", "k1 d1"), "k1 +pq", "+x k1 d1 k1"},
		{"+p k1 +q", reads("k1 +x", "d1 k1"), "+p k1 +q", "k1 d1 +x k1"},
		{"+p k1 +q", reads("k1 +x", "d1 k1", "+w k1"), "k1 +p k1 +q", "+w k1 d1 +x k1"},
		{"+p k1 +q", reads("k1 +x", "d1 k1", "k1 +w"), "+p k2 +q", "k1 d1 +xw k1"},
		{"+p k1 +q", reads("k1 +x", "d1 k1", "d1", "+w"), "k1 +pq", "+w k1 d1 k1"},
		// The operation drops what is next to the gap.
		{"+y d1", reads("+x k1", "k1 +w k1"), "k2 +y d1", "+xw k1"},
		{"d1 +y", reads("k1 +x", "k1 +w k1"), "d1 k2 +y", "+wx k1"},
		{"d1 +y", reads("+x k1", "k2 +w"), "k1 d1 k1 +y", "+xw k1"},
	})
}

// P13.1 and P13.2: operations of no spans, of which some, or all, are.
func TestNoSpans(t *testing.T) {
	for many := range 6 {
		for _, none := range [][]api.Span{nil, {}, empties, slices.Repeat(empties, 3)} {
			l := slices.Repeat([][]api.Span{none}, many)
			checkBoth(t, nil, l, nil, nil)
			checkBoth(t, row(), l, nil, nil)
			checkBoth(t, empties, l, nil, nil)
			checkBoth(t, row(put("y")), l, row(put("y")), row(keep(1)))
			checkBoth(t, none, append(l, row(put("x"))), row(keep(1)), row(put("x")))
			checkBoth(t, row(drop(1), put("y")), slices.Insert(l, 0, row(drop(1))), row(put("y")), row(keep(1)))
		}
	}
}

// chain is an operation, and those that come first.
type chain struct {
	a []api.Span
	l [][]api.Span
}

// chains are operations, each with those that come first.
func chains() []chain {
	return []chain{
		{read("+p k1 d1 +q k1 +r"), long()},
		{nil, [][]api.Span{nil}},
		{read("+y"), reads("+a", "k1 +b", "k1 d1")},
		{read("k1 +y d1 +z k1"), reads("d2 k1", "+x k1", "k1 d1", "k1 +y")},
		{read("+p d2 +q"), reads("d1 +x d1", "d1 +y", "+z k1")},
		{read("k1 d1 +p k1 +q k1"), reads("k1 d1 +x d1 k1", "k1 +y k2", "k2 +z k2", "k1 d3 k1", "k1 +w k1")},
		{read("k1 +\xF4\x8F\xBF\xBF\xCC\x81 k1"), reads("+\xC3\xA9\xF0\x9F\x98\x80 k2", "d1 k2 +\xE2\x82\xAC k1", "k1 d1 k2", "+\x00 d1 k2 +\xEF\xBF\xBD", "k1 d1 k2")},
	}
}

// long is a row of operations on three code points, one behind the other.
func long() [][]api.Span {
	return reads("k2 +x k1", "k1 d1 k2", "k3", "+\xC3\xA9 k3 +b", "d5", "", "+xyz", "k1 d1 k1", "d2 +a")
}

// with is a row with one of its operations made another one.
func with(l [][]api.Span, i int, x []api.Span) [][]api.Span {
	l = slices.Clone(l)
	l[i] = x
	return l
}

// P13.1 and P13.2: the chains of the tests, whole and their beginnings.
func TestChains(t *testing.T) {
	for _, c := range chains() {
		for n := range len(c.l) + 1 {
			checkWord(t, c.a, c.l[:n])
		}
	}
	l := long()
	checkAll(t, []sample{
		{"+p k1 d1 +q k1 +r", l[:2], "+p k2 +q k1 +r", "k2 +x k3"},
		{"+p k1 d1 +q k1 +r", l[:4], "k1 +p k2 +q k2 +r", "+\xC3\xA9 k2 +x k2 +b k1"},
		{"+p k1 d1 +q k1 +r", l[:6], "+pqr", "k1 d1 k1 d1 k1"},
		{"+p k1 d1 +q k1 +r", l, "k1 +pqr", "+a k1 d1 k1 d1 k1"},
	})
}

// P13.1 and P13.2: empty spans of each kind, one and some, at each place of each operation, change nothing.
func TestEmptySpansChangeNothing(t *testing.T) {
	for _, c := range chains() {
		want, patch := behind(t, c.a, c.l), ahead(t, c.a, c.l)
		for _, some := range [][]api.Span{empties[:1], empties[1:2], empties[2:], slices.Repeat(empties, 2)} {
			for i := range len(c.a) + 1 {
				checkBoth(t, slices.Insert(slices.Clone(c.a), i, some...), c.l, want, patch)
			}
			all := slices.Clone(c.l)
			for i, x := range c.l {
				for j := range len(x) + 1 {
					checkBoth(t, c.a, with(c.l, i, slices.Insert(slices.Clone(x), j, some...)), want, patch)
				}
				all[i] = slices.Concat(some, x, some)
			}
			checkBoth(t, slices.Concat(some, c.a, some), all, want, patch)
		}
	}
}

// cut is an operation in spans of no more than n code points each.
func cut(l []api.Span, n int) []api.Span {
	var pieces []api.Span
	for _, s := range l {
		for s.N > n {
			pieces = append(pieces, api.Span{Kind: s.Kind, N: n})
			s.N -= n
		}
		texts := strings.Split(s.Text, "")
		for len(texts) > n {
			pieces = append(pieces, put(strings.Join(texts[:n], "")))
			texts = texts[n:]
		}
		s.Text = strings.Join(texts, "")
		pieces = append(pieces, s)
	}
	return pieces
}

// P13.1 and P13.2: spans of one kind side by side, cut at unlike places, come to the same.
func TestSpansOfOneKindSideBySide(t *testing.T) {
	a := row(keep(20), put(strings.Join(points, "")+"0123456789abc"), drop(11), keep(7), drop(2), put("opqrstuvwxyz"), keep(9))
	l := reads("k13 d9 +ABCDEFGH k12 d13 +IJKLM k2", "d7 k23 d4 +NOPQR k6", "k9 +STUV k25")
	want, patch := behind(t, a, l), ahead(t, a, l)
	for n := 1; n <= 26; n++ {
		for _, m := range []int{1, 2, 3, 5, 7, 100} {
			pieces := make([][]api.Span, len(l))
			for i, x := range l {
				pieces[i] = cut(x, m+i)
			}
			checkBoth(t, cut(a, n), pieces, want, patch)
		}
	}
}

// P13.1 and P13.2: what keeps all, anywhere among them, one or more, in one span or cut, changes nothing.
func TestWhatKeepsAllChangesNothing(t *testing.T) {
	for _, c := range chains() {
		want, patch := behind(t, c.a, c.l), ahead(t, c.a, c.l)
		for i := range len(c.l) + 1 {
			many := gives(c.a, c.l[:i])
			for _, keeps := range [][]api.Span{row(keep(many)), slices.Repeat(row(keep(1)), many), row(put(""), keep(many), drop(0))} {
				checkBoth(t, c.a, slices.Insert(slices.Clone(c.l), i, keeps), want, patch)
				checkBoth(t, c.a, slices.Insert(slices.Clone(c.l), i, slices.Repeat([][]api.Span{keeps}, 5)...), want, patch)
			}
		}
		all := row(keep(op.In(c.a)))
		one, _ := fuse.Of(op.In(c.a), c.l...)
		checkBoth(t, all, c.l, normal.Of(row(keep(gives(c.a, c.l)))), one)
	}
}

// P13.1 and P13.2: code points are counted, not bytes, of all that is put.
func TestCodePointsAreCounted(t *testing.T) {
	all := strings.Join(points, "")
	n := len(points)
	for i, p := range points {
		then := strings.Join(points[i+1:], "")
		checkBoth(t, row(put(p)), [][]api.Span{{put(all)}, {keep(i), put(p), keep(n - i)}}, row(keep(n+1), put(p)), row(put(strings.Join(points[:i], "")+p+strings.Join(points[i:], "")), keep(1)))
		checkBoth(t, row(keep(1), put(p), drop(1)), [][]api.Span{{keep(1), put(all), keep(1)}, {keep(1), drop(i + 1), keep(n - i)}}, row(keep(n-i), put(p), drop(1)), normal.Of(row(keep(1), put(then), keep(1))))
		checkBoth(t, row(put(all), keep(1)), [][]api.Span{{put(p), keep(1)}, {drop(1), keep(1), put(p)}}, row(put(all), keep(2)), row(keep(n+1), put(p)))
		checkBoth(t, row(drop(1), put(all)), [][]api.Span{{keep(1), put(p)}, {keep(1), put(all), drop(1)}}, row(drop(1), keep(n), put(all)), row(put(all), keep(n)))
	}
}

// around are spans of which each stands next to wrong ones; all of them may be.
var around = [][]api.Span{nil, row(keep(1)), row(put("a")), row(drop(1)), empties, row(keep(2), put("x"), drop(1))}

// tooMuch are operations that take more than 2^20.
func tooMuch() [][]api.Span {
	return [][]api.Span{
		row(keep(most), keep(1)), row(drop(most), drop(1)), row(keep(1), drop(most)), row(put("x"), keep(most-1), put("y"), drop(2), put("z")),
		slices.Repeat(row(drop(most)), 4096),
	}
}

// P13.1 and P13.2: op's error of the operation itself, told ahead of all that is wrong of those that come first.
func TestTheOperationMayNotBe(t *testing.T) {
	rows := [][][]api.Span{nil, {nil}, long(), reads("k2"), reads("k3", "k2"), {row(keep(most), keep(1))}, {row(keep(-1)), row(api.Span{})}, {row(put("\xFF"))}}
	for _, l := range rows {
		for _, x := range wrong {
			for _, m := range around {
				checkFails(t, slices.Concat(m, row(x.s)), l, x.code)
				checkFails(t, slices.Concat(row(x.s), m), l, x.code)
				checkFails(t, slices.Concat(m, row(x.s), m), l, x.code)
			}
			checkFails(t, row(keep(3), x.s), l, x.code)
			for _, y := range wrong {
				checkFails(t, row(x.s, y.s), l, x.code)
				checkFails(t, row(x.s), [][]api.Span{row(y.s)}, x.code)
				checkFails(t, row(keep(3), x.s), append(long(), row(y.s)), x.code)
			}
		}
		for _, a := range tooMuch() {
			checkFails(t, a, l, api.ErrBig)
			checkFails(t, a, [][]api.Span{a}, api.ErrBig)
		}
		checkFails(t, row(put("\xC3"), put("\xA9")), l, api.ErrText)
	}
}

// P13.1 and P13.2: op's error of one of those that come first, as the first one, in the middle, and as the last one, whether what is left of it fits or not.
func TestOneThatMayNotBe(t *testing.T) {
	a, l := read("+p k1 d1 +q k1 +r"), long()
	for i := range l {
		n := gives(a, l[:i])
		for _, x := range wrong {
			for _, m := range around {
				checkFails(t, a, with(l, i, slices.Concat(m, row(x.s))), x.code)
				checkFails(t, a, with(l, i, slices.Concat(row(x.s), m)), x.code)
				checkFails(t, a, with(l, i, slices.Concat(m, row(x.s), row(keep(n)))), x.code)
			}
			checkFails(t, a, with(l, i, row(x.s))[:i+1], x.code)
		}
		for _, big := range tooMuch() {
			checkFails(t, a, with(l, i, big), api.ErrBig)
		}
		checkFails(t, a, with(l, i, row(put("\xC3"), put("\xA9"))), api.ErrText)
	}
}

// P13.1 and P13.2: one that takes too many or too few, as the first one, in the middle, and as the last one; the first one is held against what the operation takes.
func TestOneThatDoesNotFit(t *testing.T) {
	a, l := read("+p k1 d1 +q k1 +r"), long()
	for i := range l {
		n := gives(a, l[:i])
		for _, kind := range []func(int) api.Span{keep, drop} {
			for _, m := range []int{n + 1, n + 2, n + 100, most - n} {
				checkFails(t, a, with(l, i, row(kind(m))), api.ErrLen)
				checkFails(t, a, with(l, i, row(put("abc"), kind(m), put("xyz"))), api.ErrLen)
				checkFails(t, a, with(l, i, row(kind(m)))[:i+1], api.ErrLen)
			}
			for m := range n {
				checkFails(t, a, with(l, i, row(kind(m))), api.ErrLen)
				checkFails(t, a, with(l, i, row(put(strings.Repeat("x", n-m)), kind(m))), api.ErrLen)
				checkFails(t, a, with(l, i, row(kind(m)))[:i+1], api.ErrLen)
			}
		}
		if n > 0 {
			checkFails(t, a, with(l, i, nil), api.ErrLen)
		}
	}
	// What the operation takes is what counts, not what it gives, and not what it is behind others.
	for _, n := range []int{0, 1, 2, 4, 5, most - 1, most} {
		checkFails(t, row(keep(n)), l, api.ErrLen)
		checkFails(t, row(drop(n), put("abc")), l[:1], api.ErrLen)
	}
	checkFails(t, read("+ab k1"), reads("k3"), api.ErrLen)
	checkFails(t, read("d1"), reads(""), api.ErrLen)
	checkFails(t, read("k1 +y"), reads("k1 +x", "k3"), api.ErrLen)
	checkFails(t, read("k1 +y"), reads("k1 +x", "k1"), api.ErrLen)
	checkFails(t, read("k1 +y"), reads("k1 +\xC3\xA9", "k3"), api.ErrLen)
	checkFails(t, read("d1"), reads("k1", ""), api.ErrLen)
}

// P13.1 and P13.2: of several errors of those that come first that of the first one is told; of one that neither may be nor fits, that it may not be.
func TestTheFirstErrorIsTold(t *testing.T) {
	a, l := read("+p k1 d1 +q k1 +r"), long()
	unfit := row(keep(most))
	for i := range l {
		for j := i + 1; j < len(l); j++ {
			for _, x := range wrong {
				checkFails(t, a, with(with(l, i, row(x.s)), j, unfit), x.code)
				checkFails(t, a, with(with(l, i, unfit), j, row(x.s)), api.ErrLen)
			}
			checkFails(t, a, with(with(l, i, row(keep(-1))), j, row(api.Span{})), api.ErrSize)
			checkFails(t, a, with(with(l, i, row(api.Span{})), j, row(keep(-1))), api.ErrKind)
			checkFails(t, a, with(with(l, i, row(keep(most), drop(1))), j, row(put("\xFF"))), api.ErrBig)
			checkFails(t, a, with(with(l, i, row(put("\xFF"))), j, row(keep(most), drop(1))), api.ErrText)
		}
		for _, x := range wrong {
			// All that is behind it is wrong.
			all := slices.Concat(l[:i], [][]api.Span{row(x.s), unfit, row(api.Span{}), row(keep(-1)), unfit})
			checkFails(t, a, all, x.code)
			checkFails(t, a, slices.Concat(l[:i], [][]api.Span{unfit}, all[i:]), api.ErrLen)
			checkFails(t, a, with(l, i, row(keep(most-1), x.s)), x.code)
		}
	}
}

// P13.1 and P13.2: an error is told, and nothing else, where the operation is dear to go through and those that come first are cheap, and the other way about.
func TestErrorsOfDearOnes(t *testing.T) {
	dear := slices.Repeat(read("+ab k1 d1"), 50)
	for _, a := range [][]api.Span{dear, row(keep(100))} {
		for _, s := range [][]api.Span{slices.Repeat(read("k1 d1 +x"), 50), row(keep(100))} {
			l := slices.Repeat([][]api.Span{s}, 40)
			for _, i := range []int{0, 1, 20, 38, 39} {
				checkFails(t, a, with(l, i, row(keep(101))), api.ErrLen)
				checkFails(t, a, with(l, i, row(keep(99))), api.ErrLen)
				checkFails(t, a, with(l, i, row(keep(100), put("\xFF"))), api.ErrText)
			}
			checkWord(t, a, l)
		}
	}
}

// short are all operations of so many code points, each kept or dropped by a span of its own, in which so many texts stand anywhere between these: letters from that one on, every other one behind another code point.
func short(takes, puts int, letter byte) [][]api.Span {
	if takes == 0 && puts == 0 {
		return [][]api.Span{nil}
	}
	var all [][]api.Span
	add := func(s api.Span, l [][]api.Span) {
		for _, x := range l {
			all = append(all, append(row(s), x...))
		}
	}
	if takes > 0 {
		add(keep(1), short(takes-1, puts, letter))
		add(drop(1), short(takes-1, puts, letter))
	}
	if puts > 0 {
		text := string(rune(letter))
		if puts%2 == 0 {
			text = "\xC3\xA9" + text
		}
		add(put(text), short(takes, puts-1, letter+1))
	}
	return all
}

// upTo are all that short tells of so many texts, and fewer.
func upTo(takes, puts int, letter byte) [][]api.Span {
	var all [][]api.Span
	for n := range puts + 1 {
		all = append(all, short(takes, n, letter)...)
	}
	return all
}

// checkEach holds an operation, and those that come first, against the chapter's own words, and P13.3, with no more asked than that: there are many of them.
func checkEach(t *testing.T, a []api.Span, l [][]api.Span) {
	t.Helper()
	got, e := through.Of(a, l...)
	if want := behind(t, a, l); !slices.Equal(got, want) || !normal.Is(got) || e != api.OK {
		t.Errorf("Of(%s, %s) = %s, %d, want %s", show(a), showAll(l), show(got), e, show(want))
	}
	patch, e := through.Patch(a, l...)
	if want := ahead(t, a, l); !slices.Equal(patch, want) || !normal.Is(patch) || e != api.OK {
		t.Errorf("Patch(%s, %s) = %s, %d, want %s", show(a), showAll(l), show(patch), e, show(want))
	}
	meet(t, a, l, got, patch)
}

// P13.1, P13.2 and P13.3: all short operations of a short text, and all short ones that come first, one, two, and three.
func TestAllShortOnes(t *testing.T) {
	for n := range 3 {
		operations := upTo(n, 2, 'p')
		for _, s := range upTo(n, 1, 'A') {
			for _, u := range upTo(op.Out(s), 1, '0') {
				for _, a := range operations {
					checkEach(t, a, [][]api.Span{s})
					checkEach(t, a, [][]api.Span{s, u})
					checkEach(t, a, [][]api.Span{s, u, row(put("-"), keep(op.Out(u)))})
					checkEach(t, a, [][]api.Span{s, u, row(drop(op.Out(u)), put("+"))})
					if t.Failed() {
						return
					}
				}
			}
		}
	}
}

// anyOf is an operation that takes n, of the numbers that r tells, which are the same ones each time.
func anyOf(r *rand.Rand, n int) []api.Span {
	var l []api.Span
	for n > 0 || r.Intn(3) > 0 {
		many := min(r.Intn(6), n)
		switch r.Intn(4) {
		case 0:
			l = append(l, keep(many))
		case 1:
			l = append(l, drop(many))
		case 2:
			n += many
			text := ""
			for range r.Intn(3) {
				text += points[r.Intn(len(points))] + string(rune('A'+r.Intn(26)))
			}
			l = append(l, put(text))
		default:
			l = append(l, empties[r.Intn(3)])
			n += many
		}
		n -= many
	}
	return l
}

// anyChain are so many operations, the first one of which takes n.
func anyChain(r *rand.Rand, n, many int) [][]api.Span {
	l := make([][]api.Span, many)
	for i := range l {
		l[i] = anyOf(r, n)
		n = op.Out(l[i])
	}
	return l
}

// P13.1, P13.2 and P13.3: longer operations, behind none to many, of spans of all kinds and lengths in many orders.
func TestLongerOnes(t *testing.T) {
	r := rand.New(rand.NewSource(13))
	for range 1500 {
		n := r.Intn(30)
		checkWord(t, anyOf(r, n), anyChain(r, n, r.Intn(30)))
		if t.Failed() {
			return
		}
	}
}

// P13.1 to P13.3: operations that are much dearer to go through than those that come first, and the other way about.
func TestDearOnes(t *testing.T) {
	r := rand.New(rand.NewSource(131))
	for range 60 {
		n := 100 + r.Intn(300)
		little := row(keep(n/2), put("y"), drop(n-n/2))
		checkWord(t, little, anyChain(r, n, r.Intn(12)))
		a := anyOf(r, n)
		var l [][]api.Span
		for range r.Intn(120) {
			at := r.Intn(n + 1)
			gone := r.Intn(min(n-at, 3) + 1)
			l = append(l, row(keep(at), put("\xC3\xA9"+strconv.Itoa(len(l))), drop(gone), keep(n-at-gone)))
			n = op.Out(l[len(l)-1])
		}
		checkWord(t, a, l)
		checkWord(t, append(a, put(strings.Repeat("\xE2\x82\xAC", 500))), l)
		if t.Failed() {
			return
		}
	}
}

// made is what operations come to, of which the test knows that they may stand behind each other.
func made(t *testing.T, n int, l ...[]api.Span) []api.Span {
	t.Helper()
	one, e := fuse.Of(n, l...)
	if e != api.OK {
		t.Fatalf("fuse.Of(%d, %s) tells %d", n, showAll(l), e)
	}
	return one
}

// checkCuts holds an operation, and those that come first, to P13.3: whichever of these are made one first, Of and Patch are the same.
func checkCuts(t *testing.T, a []api.Span, l [][]api.Span) {
	t.Helper()
	n := op.In(a)
	want, patch := behind(t, a, l), ahead(t, a, l)
	check(t, a, [][]api.Span{made(t, n, l...)}, want, patch)
	for i := range len(l) + 1 {
		for j := i; j <= len(l); j++ {
			one := made(t, gives(a, l[:i]), l[i:j]...)
			check(t, a, slices.Concat(l[:i], [][]api.Span{one}, l[j:]), want, patch)
			check(t, a, [][]api.Span{made(t, n, l[:i]...), one, made(t, gives(a, l[:j]), l[j:]...)}, want, patch)
		}
	}
}

// P13.3: which of those that come first are made one first does not matter.
func TestWhichAreMadeOneFirst(t *testing.T) {
	for _, c := range chains() {
		checkCuts(t, c.a, c.l)
	}
	r := rand.New(rand.NewSource(133))
	for range 100 {
		n := r.Intn(20)
		checkCuts(t, anyOf(r, n), anyChain(r, n, r.Intn(10)))
		if t.Failed() {
			return
		}
	}
}

// checkMany holds very long operations, and very many of them, against what is wanted of them.
func checkMany(t *testing.T, a []api.Span, l [][]api.Span, want, patch []api.Span) {
	t.Helper()
	if got, e := through.Of(a, l...); !slices.Equal(got, want) || e != api.OK {
		t.Errorf("Of(%s, %s) = %s, %d, want %s", show(a), showAll(l), show(got), e, show(want))
	}
	if got, e := through.Patch(a, l...); !slices.Equal(got, patch) || e != api.OK {
		t.Errorf("Patch(%s, %s) = %s, %d, want %s", show(a), showAll(l), show(got), e, show(patch))
	}
}

// P13.1 and P13.2: operations that take very many code points, in few spans.
func TestVeryManyCodePoints(t *testing.T) {
	const half = most / 2
	text := strings.Repeat("\xC3\xA9\xF0\x9F\x98\x80", half)
	for _, x := range []struct {
		a           []api.Span
		l           [][]api.Span
		want, patch []api.Span
	}{
		{row(keep(most)), nil, row(keep(most)), row(keep(most))},
		{row(drop(most)), [][]api.Span{row(keep(most)), row(keep(half), keep(half))}, row(drop(most)), nil},
		{row(drop(most)), [][]api.Span{row(drop(most)), row(put(text)), row(drop(1), keep(most-1))}, row(keep(most - 1)), row(put(text[2:]))},
		{row(drop(most-1), keep(1)), [][]api.Span{row(drop(1), keep(most-1)), row(keep(most-2), put("x"), drop(1))}, row(drop(most-2), keep(1)), row(put("x"), drop(1))},
		{row(keep(half), put("y"), keep(half)), [][]api.Span{row(keep(half), put("x"), keep(half-1), drop(1)), row(drop(half), keep(half)), row(drop(1), keep(half-1))}, row(put("y"), keep(half-1)), row(drop(half), keep(half), drop(1))},
		{row(put("y"), keep(most)), [][]api.Span{row(drop(1), keep(most-1)), row(put("x"), keep(most-1)), row(keep(most-1), drop(1))}, row(keep(1), put("y"), keep(most-2)), row(put("x"), keep(1), drop(1), keep(most-2), drop(1))},
		{row(put(text)), [][]api.Span{row(put(text)), row(keep(half), drop(half)), row(keep(half), put("x"))}, row(keep(half+1), put(text)), row(put(text[:3*half]+"x"), keep(most))},
		{row(put(text), drop(most)), [][]api.Span{row(keep(most)), row(drop(half), keep(half))}, row(put(text), drop(half)), row(keep(most))},
		// What is given is not bounded, by the operation, and by the last one of those that come first.
		{row(put(text), keep(most), put("y")), [][]api.Span{row(keep(most)), row(put(text), keep(most), put(text))}, row(keep(most), put(text), keep(2*most), put("y")), row(put(text), keep(2*most), put(text), keep(1))},
	} {
		check(t, x.a, x.l, x.want, x.patch)
	}
	a := row(drop(1), keep(half-1), put("y"), keep(half))
	l := [][]api.Span{row(keep(half), put("x"), drop(half)), row(keep(half-1), drop(1), keep(1), put("\xE2\x82\xAC"))}
	checkBoth(t, a, l, row(drop(1), keep(half), put("y")), row(keep(half-2), drop(1), put("x\xE2\x82\xAC"), keep(1), drop(half)))
}

// P13.1 and P13.2: operations of very many spans: to begin anew for each of them would take all day.
func TestVeryManySpans(t *testing.T) {
	const times = most / 8
	many := func(s string) []api.Span { return slices.Repeat(read(s), times) }
	all := func(s ...string) [][]api.Span {
		var l [][]api.Span
		for _, x := range s {
			l = append(l, many(x))
		}
		return l
	}
	for _, x := range []struct {
		a           []api.Span
		l           [][]api.Span
		want, patch []api.Span
	}{
		{many("k1 +y d1"), all("d1 k1", "+x k1"), many("k1 +y d1"), many("+x d1 k1")},
		{many("k1 +y d1"), all("k1 +x k1", "k1 d1 k1", "k1 d1"), many("k1 +y"), row(keep(2 * times))},
		{many("+y k1"), all("+x k1", "k1 +w k1", "k2 d1"), many("k2 +y"), many("+xw k1 d1")},
		{many("d1"), all("k1 +xy", "d1 k2", "+z k2"), row(keep(3 * times)), row(put(strings.Repeat("zxy", times)))},
		{row(keep(times)), all("+x k1", "k1 d1"), row(keep(times)), many("+x d1")},
		{row(drop(times), put("y")), all("+x k1", "k2 +z"), append(many("k1 d1 k1"), put("y")), row(put(strings.Repeat("xz", times)), keep(1))},
		{many("k1 k1 + d0"), all("d0 k1 + k1", "k1 k0 k1"), row(keep(2 * times)), row(keep(2 * times))},
	} {
		checkMany(t, x.a, x.l, normal.Of(x.want), normal.Of(x.patch))
	}
}

// P13.1 and P13.2: very many operations come first, of few spans, and the one behind them is short, is of very many spans, or puts a very long text: to go through all of that anew for each of them would take all day.
func TestVeryManyOperations(t *testing.T) {
	const many = most / 16
	const n = 2 * many
	text := strings.Repeat("\xC3\xA9", most)
	ends := put(strings.Repeat("x", many))
	keeps := slices.Repeat([][]api.Span{row(keep(n))}, many)
	puts, drops := make([][]api.Span, many), make([][]api.Span, many)
	for i := range many {
		puts[i] = row(keep(n+i), put("x"))
		drops[i] = row(keep(n-2*i-2), drop(2))
	}
	for _, x := range []struct {
		a                     []api.Span
		behindPuts, putsFor   []api.Span
		behindDrops, dropsFor []api.Span
	}{
		{
			slices.Repeat(read("+y d1 k1"), many),
			append(slices.Repeat(read("+y d1 k1"), many), keep(many)), row(keep(n), ends),
			row(put(strings.Repeat("y", many))), slices.Repeat(read("k1 d1"), many),
		},
		{
			row(keep(many), put("y"), keep(many)),
			row(keep(many), put("y"), keep(n)), row(keep(n+1), ends),
			row(put("y")), row(drop(many), keep(1), drop(many)),
		},
		{
			// What is put behind the last code point stands ahead of what the operation puts there.
			row(put(text), keep(n), put(text)),
			row(put(text), keep(n+many), put(text)), row(keep(most+n), ends, keep(most)),
			row(put(text + text)), row(keep(most), drop(n), keep(most)),
		},
		{
			row(drop(n), put("z")),
			row(drop(n), keep(many), put("z")), row(ends, keep(1)),
			row(put("z")), row(keep(1)),
		},
	} {
		checkMany(t, x.a, keeps, x.a, row(keep(op.Out(x.a))))
		checkMany(t, x.a, puts, normal.Of(x.behindPuts), x.putsFor)
		checkMany(t, x.a, drops, x.behindDrops, x.dropsFor)
	}
	checkMany(t, nil, make([][]api.Span, n), nil, nil)
	checkMany(t, row(put(text)), make([][]api.Span, n), row(put(text)), row(keep(most)))
	checkMany(t, read("+y k1"), slices.Repeat(reads("+x k1", "d1 k1"), many), read("+y k1"), read("k2"))
	checkMany(t, read("+y k1 +z"), slices.Repeat(reads("+x d1"), many), read("k1 +yz"), read("+x k1 d1 k1"))
}

// overwrite writes into all of a row's memory.
func overwrite(l []api.Span) {
	l = l[:cap(l)]
	for i := range l {
		l[i] = api.Span{Kind: 1, N: 99, Text: "over"}
	}
}

// R7: what is told is the caller's own: neither what was handed in, nor the other thing that is told, nor what was told before, sees what becomes of it, nor the other way about.
func TestWhatIsToldIsTheCallersOwn(t *testing.T) {
	more := []chain{{read("k1 +y d1"), nil}, {read("k1 +y d1"), reads("k2")}, {row(keep(2)), reads("k1 +x d1")}, {read("+y"), reads("+x", "k1")}, {nil, reads("+x")}}
	for _, c := range append(chains(), more...) {
		for _, ask := range []call{through.Of, through.Patch} {
			a, asA := withRest(c.a)
			l, asL := given(c.l)
			want, e := ask(a, l...)
			first, f := ask(a, l...)
			second, g := ask(a, l...)
			if e != api.OK || f != api.OK || g != api.OK {
				t.Fatal(show(c.a), showAll(c.l), e, f, g)
			}
			want = slices.Clone(want)
			overwrite(first)
			if !slices.Equal(a[:cap(a)], asA) || !unchanged(l, asL) {
				t.Errorf("of %s and %s memory is told that was handed in", show(c.a), showAll(c.l))
			}
			overwrite(a)
			for i, s := range l {
				overwrite(s)
				l[i] = nil
			}
			if !slices.Equal(second, want) {
				t.Errorf("what was told is %s by now, not %s", show(second), show(want))
			}
		}
	}
}

// R7: all of them may be one memory.
func TestAllAreOne(t *testing.T) {
	for _, s := range []string{"", "k3", "+x d1", "d1 +x", "k1 +x d1 k1", "+xy k1 d2", "d1 k1 +\xC3\xA9 k2"} {
		x, as := withRest(read(s))
		for many := range 6 {
			l := slices.Repeat([][]api.Span{x}, many)
			want, patch := behind(t, x, l), ahead(t, x, l)
			if got, e := through.Of(x, l...); e != api.OK || !slices.Equal(got, want) {
				t.Errorf("Of %s behind itself, %d times, is %s, %d", s, many, show(got), e)
			}
			if got, e := through.Patch(x, l...); e != api.OK || !slices.Equal(got, patch) {
				t.Errorf("Patch of %s, %d times, behind itself is %s, %d", s, many, show(got), e)
			}
		}
		if !slices.Equal(x[:cap(x)], as) {
			t.Errorf("Of or Patch changed %s", show(x))
		}
	}
	// A row of which what is handed in is a piece: the operations behind it are still there.
	l := long()
	as := slices.Clone(l)
	for i := range len(l) + 1 {
		checkWord(t, read("+p k1 d1 +q k1 +r"), l[:i])
		through.Of(read("+p k1 d1 +q k1 +r"), l[:i]...)
		through.Patch(read("+p k1 d1 +q k1 +r"), l[:i]...)
	}
	if !slices.EqualFunc(l, as, func(x, y []api.Span) bool { return slices.Equal(x, y) }) {
		t.Errorf("what stands behind what was handed in is %s by now", showAll(l))
	}
}

// R2 and R6: an error in between changes nothing of what is told next.
func TestAnErrorChangesNothing(t *testing.T) {
	a, l := read("+p k1 d1 +q"), reads("+a d1 k1 +b", "k1 +x d1 k1", "d1 k2")
	for _, x := range wrong {
		checkFails(t, row(put("left"), keep(2), x.s), l, x.code)
		for i := range l {
			checkFails(t, a, with(l, i, row(put("left"), keep(1), x.s)), x.code)
			checkFails(t, a, with(l, i, row(put("left"), keep(9))), api.ErrLen)
			checkBoth(t, a, l, read("k1 +p k1 +q"), read("+x k1 d1 +b k1"))
		}
	}
}
