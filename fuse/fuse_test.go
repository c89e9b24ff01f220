package fuse_test

import (
	"fmt"
	"math"
	"math/rand"
	"slices"
	"strconv"
	"strings"
	"testing"

	"epitome/api"
	"epitome/apply"
	"epitome/compose"
	"epitome/fuse"
	"epitome/normal"
	"epitome/op"
)

// most is the greatest number that an operation may take: 2^20, written out anew.
const most = 1048576

func keep(n int) api.Span { return api.Span{Kind: 1, N: n} }

func put(text string) api.Span { return api.Span{Kind: 2, Text: text} }

func drop(n int) api.Span { return api.Span{Kind: 3, N: n} }

func row(l ...api.Span) []api.Span { return l }

// empties are the empty spans, one of each kind.
var empties = row(keep(0), put(""), drop(0))

// read is an operation that is written down: k and a number keep so many, d and a number drop so many, + and a text put that.
func read(s string) []api.Span {
	var l []api.Span
	for _, word := range strings.Fields(s) {
		n, _ := strconv.Atoi(word[1:])
		switch word[0] {
		case 'k':
			l = append(l, keep(n))
		case 'd':
			l = append(l, drop(n))
		case '+':
			l = append(l, put(word[1:]))
		}
	}
	return l
}

// reads are operations that are written down.
func reads(l ...string) [][]api.Span {
	var all [][]api.Span
	for _, s := range l {
		all = append(all, read(s))
	}
	return all
}

// points are code points of one, two, three and four bytes; U+FFFD, U+0000 and one that stands on the one ahead are among them.
var points = []string{"a", "\xC3\xA9", "\xE2\x82\xAC", "\xF0\x9F\x98\x80", "\x00", "\xEF\xBF\xBD", "\xCC\x81", "\xF4\x8F\xBF\xBF", "\x7F", "\xED\x9F\xBF"}

// wrong are spans that may not be, each with its error.
var wrong = []struct {
	s    api.Span
	code api.Errno
}{
	{api.Span{}, api.ErrKind},
	{api.Span{Kind: 4, N: 7}, api.ErrKind},
	{api.Span{Kind: -1, N: 5, Text: "a"}, api.ErrKind},
	{api.Span{Kind: math.MinInt, N: math.MaxInt, Text: "\xFF"}, api.ErrKind},
	{keep(-1), api.ErrSize},
	{keep(most + 1), api.ErrSize},
	{keep(math.MaxInt), api.ErrSize},
	{drop(-2), api.ErrSize},
	{drop(most + 1), api.ErrSize},
	{drop(math.MinInt), api.ErrSize},
	{api.Span{Kind: 1, N: -3, Text: "a"}, api.ErrSize},
	{api.Span{Kind: 2, N: 1, Text: "abc"}, api.ErrSize},
	{api.Span{Kind: 2, N: -1, Text: "\xC3"}, api.ErrSize},
	{api.Span{Kind: 1, N: 1, Text: "a"}, api.ErrText},
	{api.Span{Kind: 3, N: 1, Text: "ab"}, api.ErrText},
	{api.Span{Kind: 1, Text: "\xFF"}, api.ErrText},
	{put("a\xFF"), api.ErrText},
	{put("\xED\xA0\x80"), api.ErrText},
}

// show is a row to be read, with no more than the beginnings of its texts.
func show(l []api.Span) string {
	short := slices.Clone(l[:min(len(l), 12)])
	for i := range short {
		short[i].Text = short[i].Text[:min(len(short[i].Text), 20)]
	}
	return fmt.Sprintf("%d: %+q", len(l), fmt.Sprint(short))
}

// showAll are rows to be read, no more than the first and last ones.
func showAll(l [][]api.Span) string {
	var s []string
	for i, x := range l {
		if i < 6 || i > len(l)-3 {
			s = append(s, show(x))
		}
	}
	return strconv.Itoa(len(l)) + " operations: " + strings.Join(s, " | ")
}

// withRest is l in a memory that goes on behind it, and that memory as it is.
func withRest(l []api.Span) (given, as []api.Span) {
	const behind = 3
	given = make([]api.Span, len(l), len(l)+behind)
	copy(given, l)
	copy(given[len(l):cap(given)], row(keep(11), put("rest"), drop(13)))
	return given, slices.Clone(given[:cap(given)])
}

// given are operations, each in a memory that goes on behind it, as theirs does; and all that memory as it is.
func given(l [][]api.Span) (given, as [][]api.Span) {
	const behind = 2
	given = make([][]api.Span, len(l), len(l)+behind)
	for i, x := range l {
		var y []api.Span
		given[i], y = withRest(x)
		as = append(as, y)
	}
	copy(given[len(l):cap(given)], [][]api.Span{read("k5"), read("+rest d9")})
	return given, append(as, read("k5"), read("+rest d9"))
}

// unchanged tells whether all memory that given told is as it was.
func unchanged(l, as [][]api.Span) bool {
	return slices.EqualFunc(l[:cap(l)], as, func(x, y []api.Span) bool { return slices.Equal(x[:cap(x)], y) })
}

// of is Of, and chain is Chain, with the operations handed in one by one, if these are few, and else as a slice.
func of(n int, l [][]api.Span) ([]api.Span, api.Errno) {
	switch len(l) {
	case 0:
		return fuse.Of(n)
	case 1:
		return fuse.Of(n, l[0])
	case 2:
		return fuse.Of(n, l[0], l[1])
	case 3:
		return fuse.Of(n, l[0], l[1], l[2])
	}
	return fuse.Of(n, l...)
}

func chain(n int, l [][]api.Span) (int, api.Errno) {
	switch len(l) {
	case 0:
		return fuse.Chain(n)
	case 1:
		return fuse.Chain(n, l[0])
	case 2:
		return fuse.Chain(n, l[0], l[1])
	case 3:
		return fuse.Chain(n, l[0], l[1], l[2])
	}
	return fuse.Chain(n, l...)
}

// ask holds what Of and Chain tell against what is wanted of them. It asks twice: what was told once must not come to be another thing; what was handed in, and what stands behind it in its memory, stays as it was.
func ask(t *testing.T, n int, l [][]api.Span, want []api.Span, out int, code api.Errno) {
	t.Helper()
	x, as := given(l)
	for range 2 {
		if got, e := of(n, x); !slices.Equal(got, want) || e != code {
			t.Errorf("Of(%d, %s) = %s, %d, want %s, %d", n, showAll(l), show(got), e, show(want), code)
		}
		if got, e := fuse.Of(n, x...); !slices.Equal(got, want) || e != code {
			t.Errorf("Of(%d, %s...) = %s, %d, want %s, %d", n, showAll(l), show(got), e, show(want), code)
		}
		if got, e := chain(n, x); got != out || e != code {
			t.Errorf("Chain(%d, %s) = %d, %d, want %d, %d", n, showAll(l), got, e, out, code)
		}
		if got, e := fuse.Chain(n, x...); got != out || e != code {
			t.Errorf("Chain(%d, %s...) = %d, %d, want %d, %d", n, showAll(l), got, e, out, code)
		}
	}
	if !unchanged(x, as) {
		t.Errorf("Of or Chain changed %s", showAll(l))
	}
}

// check holds operations against what they come to, which is in its shortest form, takes n, and gives what the last one gives.
func check(t *testing.T, n int, l [][]api.Span, want []api.Span) {
	t.Helper()
	out := n
	if len(l) > 0 {
		out = op.Out(l[len(l)-1])
	}
	if !normal.Is(want) || op.In(want) != n || op.Out(want) != out {
		t.Fatalf("what is wanted of %s is wrong: %s", showAll(l), show(want))
	}
	ask(t, n, l, want, out, api.OK)
}

// checkFails holds operations to the error of theirs; with the error nothing else is told.
func checkFails(t *testing.T, n int, l [][]api.Span, code api.Errno) {
	t.Helper()
	ask(t, n, l, nil, 0, code)
}

// byWord is what operations come to, by the chapter's own words: one behind the other, from the left.
func byWord(n int, l [][]api.Span) []api.Span {
	one, _ := op.Keep(n)
	for _, next := range l {
		one, _ = compose.Of(one, next)
	}
	return one
}

// checkWord holds operations against the chapter's own words, and what they do to a text against what they do to it one behind the other.
func checkWord(t *testing.T, n int, l [][]api.Span) {
	t.Helper()
	want := byWord(n, l)
	check(t, n, l, want)
	s := textOf(n)
	got, e := apply.To(want, s)
	all, f := apply.All(s, l...)
	if got != all || e != api.OK || f != api.OK {
		t.Errorf("%s gives %+q, %d, and %s give %+q, %d", show(want), got, e, showAll(l), all, f)
	}
}

// textOf is a text of n code points.
func textOf(n int) string {
	return strings.Join(slices.Repeat(points, n/len(points)+1)[:n], "")
}

// checkBoth holds operations against what is wanted by hand, and that against the chapter's own words.
func checkBoth(t *testing.T, n int, l [][]api.Span, want []api.Span) {
	t.Helper()
	if w := byWord(n, l); !slices.Equal(w, want) {
		t.Errorf("%s come to %s by the words, and to %s by hand", showAll(l), show(w), show(want))
	}
	checkWord(t, n, l)
	check(t, n, l, want)
}

// P10.1, P10.2 and P10.3: the chapter's example.
func TestExample(t *testing.T) {
	checkBoth(t, 1, reads("+a k1", "d1 k1"), read("k1"))
}

// P10.1 and P10.2: no operation at all keeps what there is.
func TestNoOperation(t *testing.T) {
	for _, l := range [][][]api.Span{nil, {}} {
		checkBoth(t, 0, l, nil)
		for _, n := range []int{1, 2, 3, 77, 65536, most - 1, most} {
			check(t, n, l, row(keep(n)))
		}
	}
}

// samples are operations, each to be put behind others and ahead of them.
var samples = []string{
	"", "k3", "d2", "+xy", "+x k1", "k1 +x", "d1 +x", "+x d1", "k1 d1 k1", "k1 +x d1 k2", "k1 d1 +x k2", "+p d1 +q d1 +r",
	"k2 +\xC3\xA9a d1 k1 d4 +\xF0\x9F\x98\x80 k3", "d1 +x k1 +yz d2 +w k1 +v",
}

// P10.2: one operation comes to its shortest form.
func TestOneOperation(t *testing.T) {
	for _, s := range samples {
		l := read(s)
		checkBoth(t, op.In(l), [][]api.Span{l}, normal.Of(l))
		for _, with := range [][]api.Span{empties, slices.Repeat(empties, 2)} {
			for i := range len(l) + 1 {
				checkBoth(t, op.In(l), [][]api.Span{slices.Insert(slices.Clone(l), i, with...)}, normal.Of(l))
			}
		}
	}
	checkBoth(t, 7, reads("k1 k2 +a +b d1 d0 d2 k1 +"), read("k3 +ab d3 k1"))
	checkBoth(t, 0, [][]api.Span{nil}, nil)
	checkBoth(t, 0, [][]api.Span{empties}, nil)
	checkBoth(t, 2, reads("k1 k1"), read("k2"))
}

// P10.2: two operations come to what they are composed to.
func TestTwoOperations(t *testing.T) {
	for _, s := range samples {
		a := read(s)
		for _, b := range behind(op.Out(a)) {
			one, e := compose.Of(a, b)
			if e != api.OK {
				t.Fatal(show(a), show(b), e)
			}
			checkBoth(t, op.In(a), [][]api.Span{a, b}, one)
		}
	}
	checkBoth(t, 3, reads("k2 +x k1", "k1 d1 k2"), read("k1 d1 +x k1"))
	checkBoth(t, 3, reads("k1 d1 k1", "k1 +x k1"), read("k1 +x d1 k1"))
	checkBoth(t, 0, reads("+ab", "k1 +x d1"), read("+ax"))
}

// behind are operations that take n.
func behind(n int) [][]api.Span {
	half := n / 2
	return [][]api.Span{
		row(keep(n)), row(drop(n)), row(put("y"), keep(n)), row(keep(n), put("y")), row(put("y"), drop(n)),
		row(keep(half), put("y"), keep(n-half)), row(keep(half), drop(n-half), put("y")), row(drop(half), put("\xC3\xA9z"), keep(n-half)),
	}
}

// P10.2: more of them, as they come to be one by hand.
func TestSomeOperations(t *testing.T) {
	for _, x := range []struct {
		n    int
		l    [][]api.Span
		want string
	}{
		{0, reads("+a", "k1 +b", "k2 +c", "k3 +d"), "+abcd"},
		{0, reads("+a", "+b k1", "+c k2", "+d k3"), "+dcba"},
		{3, reads("k2 +x k1", "k1 d1 k2", "k1 +y k2"), "k1 +y d1 +x k1"},
		{3, reads("k1 d1 k1", "k1 +x k1", "k1 +y k2"), "k1 +yx d1 k1"},
		{3, reads("k1 d1 k1", "k1 +x k1", "k2 +y k1"), "k1 +xy d1 k1"},
		{3, reads("k1 d1 k1", "k1 +x k1", "k1 d1 k1"), "k1 d1 k1"},
		{3, reads("k2 +x k1", "k1 d1 k2", "k1 d1 k1"), "k1 d1 k1"},
		{4, reads("d1 k3", "d1 k2", "d1 k1", "d1"), "d4"},
		{4, reads("k3 d1", "k2 d1", "k1 d1", "d1"), "d4"},
		{4, reads("k3 d1", "k2 d1", "k1 d1", "d1", "+x", "k1 +y", "+z k2"), "+zxy d4"},
		{2, reads("k1 +ab k1", "k2 +c k2", "k1 d1 k1 d1 k1", "k2 +d k1", "+e k1 d1 k2"), "+e k1 +d k1"},
		{5, reads("k1 +x k4", "k3 d1 k2", "k4 +y k1", "d2 k4"), "d1 k1 d1 k1 +y k1"},
		{1, reads("+a k1", "k1 +b k1", "k2 +c k1", "k2 d1 k1", "k1 d1 k1", "d1 k1"), "k1"},
	} {
		checkBoth(t, x.n, x.l, read(x.want))
	}
}

// outOfBounds are numbers of code points that no text may have.
var outOfBounds = []int{-1, -2, math.MinInt, math.MinInt + 1, most + 1, most + 2, 2 * most, 1 << 32, -1 << 32, 1<<32 + 1, math.MaxInt}

// P10.1: a number out of bounds is told ahead of all else.
func TestNumbersOutOfBounds(t *testing.T) {
	for _, n := range outOfBounds {
		checkFails(t, n, nil, api.ErrSize)
		checkFails(t, n, [][]api.Span{nil}, api.ErrSize)
		checkFails(t, n, reads("k1"), api.ErrSize)
		checkFails(t, n, reads("+x", "k5", "d1"), api.ErrSize)
		checkFails(t, n, [][]api.Span{row(keep(n))}, api.ErrSize)
		checkFails(t, n, [][]api.Span{row(keep(most), keep(1)), row(keep(1))}, api.ErrSize)
		for _, x := range wrong {
			checkFails(t, n, [][]api.Span{{x.s}}, api.ErrSize)
			checkFails(t, n, [][]api.Span{{keep(1)}, {x.s}, {keep(7)}}, api.ErrSize)
		}
	}
}

// around are spans of which each stands next to wrong ones; all of them may be.
var around = [][]api.Span{nil, row(keep(1)), row(put("a")), row(drop(1)), empties, row(keep(2), put("x"), drop(1))}

// long is a row of operations on three code points, one behind the other.
func long() [][]api.Span {
	return reads("k2 +x k1", "k1 d1 k2", "k3", "+\xC3\xA9 k3 +b", "d5", "", "+xyz", "k1 d1 k1", "d2 +a")
}

// takes is how many code points the operations of a row take, one by one, and how many the last one gives.
func takes(n int, l [][]api.Span) []int {
	all := []int{n}
	for _, x := range l {
		all = append(all, op.Out(x))
	}
	return all
}

// with is a row with one of its operations made another one.
func with(l [][]api.Span, i int, x []api.Span) [][]api.Span {
	l = slices.Clone(l)
	l[i] = x
	return l
}

// P10.1: op's error of an operation that may not be, as the first one, in the middle, and as the last one, with right spans around the wrong one, whether what is left of it fits or not.
func TestOneThatMayNotBe(t *testing.T) {
	l := long()
	for i, n := range takes(3, l)[:len(l)] {
		for _, x := range wrong {
			for _, m := range around {
				checkFails(t, 3, with(l, i, slices.Concat(m, row(x.s))), x.code)
				checkFails(t, 3, with(l, i, slices.Concat(row(x.s), m)), x.code)
				checkFails(t, 3, with(l, i, slices.Concat(m, row(x.s), row(keep(n)))), x.code)
			}
			checkFails(t, 3, with(l, i, row(x.s))[:i+1], x.code)
		}
		checkFails(t, 3, with(l, i, row(keep(most), drop(1))), api.ErrBig)
		checkFails(t, 3, with(l, i, row(put("x"), drop(most), keep(most), put("y"))), api.ErrBig)
		checkFails(t, 3, with(l, i, slices.Repeat(row(drop(most)), 4096)), api.ErrBig)
		checkFails(t, 3, with(l, i, row(put("\xC3"), put("\xA9"))), api.ErrText)
	}
}

// P10.1: one that takes too many or too few, as the first one, in the middle, and as the last one; the first one is held against n.
func TestOneThatDoesNotFit(t *testing.T) {
	l := long()
	for i, n := range takes(3, l)[:len(l)] {
		for _, kind := range []func(int) api.Span{keep, drop} {
			for _, m := range []int{n + 1, n + 2, n + 100, most - n} {
				checkFails(t, 3, with(l, i, row(kind(m))), api.ErrLen)
				checkFails(t, 3, with(l, i, row(put("abc"), kind(m), put("xyz"))), api.ErrLen)
				checkFails(t, 3, with(l, i, row(kind(m)))[:i+1], api.ErrLen)
			}
			for m := range n {
				checkFails(t, 3, with(l, i, row(kind(m))), api.ErrLen)
				checkFails(t, 3, with(l, i, row(put(strings.Repeat("x", n-m)), kind(m))), api.ErrLen)
				checkFails(t, 3, with(l, i, row(kind(m)))[:i+1], api.ErrLen)
			}
		}
		if n > 0 {
			checkFails(t, 3, with(l, i, nil), api.ErrLen)
		}
	}
	for _, n := range []int{0, 1, 2, 4, 5, most - 1, most} {
		checkFails(t, n, l, api.ErrLen)
		checkFails(t, n, l[:1], api.ErrLen)
	}
	// Bytes are not what is counted; and what is taken out, or put in, shifts what is behind it.
	checkFails(t, 0, reads("+\xC3\xA9", "k2"), api.ErrLen)
	checkFails(t, 5, reads("k5", "d5", "k5"), api.ErrLen)
	checkFails(t, 5, append(reads("k5 +x"), row(keep(5))), api.ErrLen)
	// The one ahead is what counts, not n, and not the first one.
	checkFails(t, 2, reads("+x k2", "k2"), api.ErrLen)
	checkFails(t, 2, reads("+x k2", "d1 k2", "k3"), api.ErrLen)
}

// P10.1: of several errors that of the first operation is told; of one that neither may be nor fits, that it may not be.
func TestTheFirstErrorIsTold(t *testing.T) {
	l := long()
	unfit := row(keep(most))
	for i := range l {
		for j := i + 1; j < len(l); j++ {
			for _, x := range wrong {
				checkFails(t, 3, with(with(l, i, row(x.s)), j, unfit), x.code)
				checkFails(t, 3, with(with(l, i, unfit), j, row(x.s)), api.ErrLen)
			}
			checkFails(t, 3, with(with(l, i, row(keep(-1))), j, row(api.Span{})), api.ErrSize)
			checkFails(t, 3, with(with(l, i, row(api.Span{})), j, row(keep(-1))), api.ErrKind)
			checkFails(t, 3, with(with(l, i, row(keep(most), drop(1))), j, row(put("\xFF"))), api.ErrBig)
			checkFails(t, 3, with(with(l, i, row(put("\xFF"))), j, row(keep(most), drop(1))), api.ErrText)
		}
		for _, x := range wrong {
			// All that is behind it is wrong.
			all := slices.Concat(l[:i], [][]api.Span{row(x.s), unfit, row(api.Span{}), row(keep(-1)), unfit})
			checkFails(t, 3, all, x.code)
			checkFails(t, 3, slices.Concat(l[:i], [][]api.Span{unfit}, all[i:]), api.ErrLen)
			checkFails(t, 3, with(l, i, row(keep(most-1), x.s)), x.code)
			for _, y := range wrong {
				checkFails(t, 3, with(l, i, row(x.s, y.s)), x.code)
			}
		}
	}
}

// P10.1: what Chain tells is what the last one gives, however many were given ahead; it is not bounded.
func TestWhatTheLastOneGives(t *testing.T) {
	l := long()
	for i, n := range []int{3, 4, 3, 3, 5, 0, 0, 3, 2, 1} {
		if got, e := fuse.Chain(3, l[:i]...); got != n || e != api.OK {
			t.Errorf("Chain(3, %s) = %d, %d, want %d", showAll(l[:i]), got, e, n)
		}
	}
	more := row(keep(most), put("xy"))
	check(t, most, [][]api.Span{more}, more)
	check(t, most, [][]api.Span{row(keep(most)), more}, more)
	checkFails(t, most, [][]api.Span{more, row(keep(most), drop(2))}, api.ErrBig)
	checkFails(t, most, [][]api.Span{more, row(keep(most))}, api.ErrLen)
	much := row(put(strings.Repeat("\xC3\xA9", most)), drop(most), put("z"))
	check(t, most, [][]api.Span{much}, much)
	checkFails(t, most, [][]api.Span{much, row(keep(most))}, api.ErrLen)
}

// P10.2: what keeps all, anywhere among them, one or more, in one span or cut, changes nothing.
func TestWhatKeepsAllChangesNothing(t *testing.T) {
	for _, l := range chains() {
		n := op.In(l[0])
		want := byWord(n, l)
		for i, many := range takes(n, l) {
			for _, keeps := range [][]api.Span{row(keep(many)), slices.Repeat(row(keep(1)), many), row(put(""), keep(many), drop(0))} {
				checkBoth(t, n, slices.Insert(slices.Clone(l), i, keeps), want)
				checkBoth(t, n, slices.Insert(slices.Clone(l), i, slices.Repeat([][]api.Span{keeps}, 5)...), want)
			}
		}
	}
	for _, n := range []int{0, 1, 2, 10} {
		all, _ := op.Keep(n)
		checkBoth(t, n, slices.Repeat([][]api.Span{all}, 9), all)
		checkBoth(t, n, slices.Repeat([][]api.Span{slices.Concat(all, empties)}, 9), all)
	}
}

// chains are rows of operations, each of one behind the other.
func chains() [][][]api.Span {
	return [][][]api.Span{
		long(),
		{nil},
		reads("+a", "k1 +b", "k1 d1"),
		reads("d2 k1", "+x k1", "k1 d1", "k1 +y"),
		reads("d1 +x d1", "d1 +y", "+z k1"),
		reads("k1 d1 +x d1 k1", "k1 +y k2", "k2 +z k2", "k1 d3 k1", "k1 +w k1"),
		reads("+\xC3\xA9\xF0\x9F\x98\x80 k2", "d1 k2 +\xE2\x82\xAC k1", "k1 d1 k2", "+\x00 d1 k2 +\xEF\xBF\xBD", "k1 d1 k2"),
	}
}

// P10.2: of what one puts, and a later one drops, nothing is left, at once or with others in between.
func TestWhatIsPutAndDropped(t *testing.T) {
	for _, p := range append(points, strings.Join(points, ""), "ab") {
		m := strconv.Itoa(len([]rune(p)))
		checkBoth(t, 3, reads("k1 +"+p+" k2", "k1 d"+m+" k2"), read("k3"))
		checkBoth(t, 3, reads("+"+p+" k3", "k"+m+" k1 d1 k1 +z", "d"+m+" k3"), read("k1 d1 k1 +z"))
		checkBoth(t, 1, reads("+"+p+" k1", "k"+m+" +x k1", "k"+m+" k1 +y k1", "d"+m+" k3"), read("+xy k1"))
		checkBoth(t, 0, reads("+"+p, "d"+m, "+"+p, "d"+m), nil)
		checkBoth(t, 2, reads("d2", "+"+p, "d"+m), read("d2"))
		checkBoth(t, 2, reads("k1 +"+p+" k1", "k1 d"+m+" d1", "+"+p+" k1", "d"+m+" d1"), read("d2"))
	}
}

// P10.2: empty spans of each kind, one and some, at each place of each operation, change nothing.
func TestEmptySpansChangeNothing(t *testing.T) {
	for _, l := range chains() {
		n := op.In(l[0])
		want := byWord(n, l)
		for _, some := range [][]api.Span{empties[:1], empties[1:2], empties[2:], slices.Repeat(empties, 2)} {
			all := slices.Clone(l)
			for i, x := range l {
				for j := range len(x) + 1 {
					checkBoth(t, n, with(l, i, slices.Insert(slices.Clone(x), j, some...)), want)
				}
				all[i] = slices.Concat(some, x, some)
			}
			checkBoth(t, n, all, want)
		}
	}
	for many := range 6 {
		checkBoth(t, 0, make([][]api.Span, many), nil)
		checkBoth(t, 0, slices.Repeat([][]api.Span{empties}, many), nil)
		checkBoth(t, 1, slices.Insert(make([][]api.Span, many), 0, read("d1")), read("d1"))
	}
}

// P10.2 and P10.3: code points are counted and cut, not bytes.
func TestCodePointsAreCut(t *testing.T) {
	all := strings.Join(points, "")
	for i, p := range points {
		n := len(points) - i - 1
		before, then := strings.Join(points[:i], ""), strings.Join(points[i+1:], "")
		checkBoth(t, 0, [][]api.Span{{put(all)}, {keep(i), drop(1), keep(n)}}, normal.Of(row(put(before+then))))
		checkBoth(t, 0, [][]api.Span{{put(all)}, {drop(i), keep(1 + n)}, {keep(1), drop(n)}}, row(put(p)))
		checkBoth(t, 1, [][]api.Span{{keep(1), put(all)}, {keep(i + 2), put(p), keep(n)}, {keep(i + 1), drop(1), keep(n + 1)}}, row(keep(1), put(all)))
		checkBoth(t, 0, [][]api.Span{{put(p)}, {keep(1), put(p)}, {put(p), keep(2)}, {keep(1), put("\xE2\x82\xAC"), drop(1), keep(1)}}, row(put(p+"\xE2\x82\xAC"+p)))
	}
}

// short are all operations of so many code points, each kept or dropped by a span of its own, in which so many texts stand anywhere between these: letters from that one on, every other one behind another code point.
func short(takes, puts int, letter byte) [][]api.Span {
	if takes == 0 && puts == 0 {
		return [][]api.Span{nil}
	}
	var all [][]api.Span
	add := func(s api.Span, l [][]api.Span) {
		for _, x := range l {
			all = append(all, append(row(s), x...))
		}
	}
	if takes > 0 {
		add(keep(1), short(takes-1, puts, letter))
		add(drop(1), short(takes-1, puts, letter))
	}
	if puts > 0 {
		text := string(rune(letter))
		if puts%2 == 0 {
			text = "\xC3\xA9" + text
		}
		add(put(text), short(takes, puts-1, letter+1))
	}
	return all
}

// upTo are all that short tells of so many texts, and fewer.
func upTo(takes, puts int, letter byte) [][]api.Span {
	var all [][]api.Span
	for n := range puts + 1 {
		all = append(all, short(takes, n, letter)...)
	}
	return all
}

// P10.1, P10.2 and P10.3: all short operations of a short text, and all short ones behind them, two, and three.
func TestAllShortOnes(t *testing.T) {
	for n := range 3 {
		for _, a := range upTo(n, 2, 'p') {
			for _, b := range upTo(op.Out(a), 1, 'A') {
				checkWord(t, n, [][]api.Span{a, b})
				for _, c := range upTo(op.Out(b), 1, '0') {
					l := [][]api.Span{a, b, c}
					checkEach(t, n, l)
					if t.Failed() {
						return
					}
				}
			}
		}
	}
}

// checkEach holds operations that may stand behind each other against the chapter's own words, and against what they do to a text one behind the other, with no more asked than that: there are many of them.
func checkEach(t *testing.T, n int, l [][]api.Span) {
	t.Helper()
	want := byWord(n, l)
	got, e := fuse.Of(n, l...)
	if !slices.Equal(got, want) || !normal.Is(got) || e != api.OK {
		t.Errorf("Of(%d, %s) = %s, %d, want %s", n, showAll(l), show(got), e, show(want))
	}
	text, e := apply.To(got, textOf(n))
	if all, _ := apply.All(textOf(n), l...); text != all || e != api.OK {
		t.Errorf("%s gives %+q, %d, and %s give %+q", show(got), text, e, showAll(l), all)
	}
}

// anyOf is an operation that takes n, of the numbers that r tells, which are the same ones each time.
func anyOf(r *rand.Rand, n int) []api.Span {
	var l []api.Span
	for n > 0 || r.Intn(3) > 0 {
		many := min(r.Intn(6), n)
		switch r.Intn(4) {
		case 0:
			l = append(l, keep(many))
		case 1:
			l = append(l, drop(many))
		case 2:
			n += many
			text := ""
			for range r.Intn(3) {
				text += points[r.Intn(len(points))] + string(rune('A'+r.Intn(26)))
			}
			l = append(l, put(text))
		default:
			l = append(l, empties[r.Intn(3)])
			n += many
		}
		n -= many
	}
	return l
}

// anyChain are so many operations, the first one of which takes n.
func anyChain(r *rand.Rand, n, many int) [][]api.Span {
	l := make([][]api.Span, many)
	for i := range l {
		l[i] = anyOf(r, n)
		n = op.Out(l[i])
	}
	return l
}

// P10.1, P10.2 and P10.3: longer operations, from none to many, of spans of all kinds and lengths in many orders.
func TestLongerOnes(t *testing.T) {
	r := rand.New(rand.NewSource(10))
	for range 1000 {
		n := r.Intn(30)
		checkWord(t, n, anyChain(r, n, r.Intn(40)))
		if t.Failed() {
			return
		}
	}
}

// made is what operations come to, of which the test knows that they may stand behind each other.
func made(t *testing.T, n int, l ...[]api.Span) []api.Span {
	t.Helper()
	one, e := fuse.Of(n, l...)
	if e != api.OK {
		t.Fatalf("Of(%d, %s): %d", n, showAll(l), e)
	}
	return one
}

// checkCuts holds operations to P10.3: cut at any place, and at any two, and each part made one, they come to the same.
func checkCuts(t *testing.T, n int, l [][]api.Span) {
	t.Helper()
	want := made(t, n, l...)
	at := takes(n, l)
	for i := range len(l) + 1 {
		first := made(t, n, l[:i]...)
		for j := i; j <= len(l); j++ {
			parts := [][]api.Span{first, made(t, at[i], l[i:j]...), made(t, at[j], l[j:]...)}
			if got := made(t, n, parts...); !slices.Equal(got, want) {
				t.Errorf("%s come to %s, and cut at %d and %d to %s", showAll(l), show(want), i, j, show(got))
			}
			some := slices.Concat(l[:i], parts[1:2], l[j:])
			if got := made(t, n, some...); !slices.Equal(got, want) {
				t.Errorf("%s come to %s, and with one made of those from %d to %d to %s", showAll(l), show(want), i, j, show(got))
			}
		}
	}
}

// P10.3: which ones are made one first does not matter.
func TestWhichAreMadeOneFirst(t *testing.T) {
	for _, l := range chains() {
		checkCuts(t, op.In(l[0]), l)
	}
	r := rand.New(rand.NewSource(103))
	for range 200 {
		n := r.Intn(20)
		checkCuts(t, n, anyChain(r, n, r.Intn(12)))
		if t.Failed() {
			return
		}
	}
}

// checkMany holds very many operations, or very long ones, against what they come to.
func checkMany(t *testing.T, n int, l [][]api.Span, want []api.Span) {
	t.Helper()
	if got, e := fuse.Of(n, l...); !slices.Equal(got, want) || e != api.OK {
		t.Errorf("Of(%d, %s) = %s, %d, want %s", n, showAll(l), show(got), e, show(want))
	}
	out := op.Out(want)
	if got, e := fuse.Chain(n, l...); got != out || e != api.OK {
		t.Errorf("Chain(%d, %s) = %d, %d, want %d", n, showAll(l), got, e, out)
	}
}

// P10.2: operations that take very many code points, in few spans.
func TestVeryManyCodePoints(t *testing.T) {
	const half = most / 2
	long := strings.Repeat("\xC3\xA9\xF0\x9F\x98\x80", half)
	for _, x := range []struct {
		n    int
		l    [][]api.Span
		want []api.Span
	}{
		{most, nil, row(keep(most))},
		{most, [][]api.Span{row(keep(most))}, row(keep(most))},
		{most, [][]api.Span{row(keep(half), keep(half)), row(drop(half), drop(half))}, row(drop(most))},
		{most, [][]api.Span{row(drop(most)), row(put(long)), row(drop(most)), row(put("x"))}, row(put("x"), drop(most))},
		{most, [][]api.Span{row(keep(half-1), put("xy"), drop(2), keep(half-1)), row(drop(half), keep(half)), row(drop(1), put("z"), keep(half-1))}, row(drop(half-1), put("z"), drop(2), keep(half-1))},
		{most, [][]api.Span{row(keep(most-1), drop(1)), row(keep(most-1), put("x")), row(drop(1), keep(most-1)), row(put("y"), keep(most-1))}, row(put("y"), drop(1), keep(most-2), put("x"), drop(1))},
		{0, [][]api.Span{row(put(long)), row(keep(half), drop(half)), row(drop(1), keep(half-1))}, row(put(long[2 : 3*half]))},
		{0, [][]api.Span{row(put(long)), row(put(long), drop(most)), row(drop(half), put("x"), keep(half))}, row(put("x" + long[3*half:]))},
		{1, [][]api.Span{row(put(long), drop(1)), row(keep(most)), row(put(long), keep(most), put(long))}, row(put(long+long+long), drop(1))},
	} {
		checkMany(t, x.n, x.l, x.want)
	}
}

// writes are operations, the first of which takes n, that put "x" ahead of each code point of these, one an operation, from the left.
func writes(n int) [][]api.Span {
	l := make([][]api.Span, n)
	for i := range l {
		l[i] = row(keep(2*i), put("x"), keep(n-i))
	}
	return l
}

// P10.2: very many operations, of few spans: to go through what is one so far anew for each of them would take all day.
func TestVeryManyOperations(t *testing.T) {
	const many = 1 << 17
	long := strings.Repeat("\xC3\xA9", most)
	checkMany(t, 5, slices.Repeat(reads("k5"), many), read("k5"))
	checkMany(t, 5, slices.Repeat(reads("k5 +x", "k5 d1"), many), read("k5"))
	checkMany(t, 0, make([][]api.Span, many), nil)
	checkMany(t, 1, slices.Repeat(reads("+a d1"), many), read("+a d1"))
	checkMany(t, many, writes(many), slices.Repeat(read("+x k1"), many))
	checkMany(t, 0, append([][]api.Span{{put(long)}}, slices.Repeat([][]api.Span{{keep(most)}}, many)...), row(put(long)))
	drops := make([][]api.Span, many)
	texts := make([][]api.Span, many)
	for i := range many {
		drops[i] = row(keep(many-i-1), drop(1))
		texts[i] = row(put("\xC3\xA9"), keep(i))
	}
	checkMany(t, many, drops, row(drop(many)))
	checkMany(t, 0, texts, row(put(long[:2*many])))
	checkMany(t, 0, slices.Concat(texts, drops), nil)
}

// P10.2: many operations of many spans.
func TestManyOperationsOfManySpans(t *testing.T) {
	const many, spans = 256, 1024
	times := func(s string) []api.Span { return slices.Repeat(read(s), spans) }
	checkMany(t, spans, slices.Repeat([][]api.Span{times("+x k1"), times("d1 k1")}, many/2), row(keep(spans)))
	checkMany(t, spans, slices.Repeat([][]api.Span{times("k1")}, many), row(keep(spans)))
	checkMany(t, 2*spans, slices.Repeat([][]api.Span{times("k1 +x d1")}, many), times("k1 +x d1"))
	deep := make([][]api.Span, 10)
	for i := range deep {
		deep[i] = times("+" + strings.Repeat("x", i) + " k" + strconv.Itoa(i*(i-1)/2+1))
	}
	checkMany(t, spans, deep, times("+"+strings.Repeat("x", 45)+" k1"))
}

// overwrite writes into all of a row's memory.
func overwrite(l []api.Span) {
	l = l[:cap(l)]
	for i := range l {
		l[i] = api.Span{Kind: 1, N: 99, Text: "over"}
	}
}

// R7: what is told is the caller's own: neither what was handed in, nor what was told of it before, sees what becomes of it, nor the other way about.
func TestWhatIsToldIsTheCallersOwn(t *testing.T) {
	for _, l := range append(chains(), nil, reads("k3"), reads("k1 d1 +x"), reads("d3", "+x")) {
		n := 3
		if len(l) > 0 {
			n = op.In(l[0])
		}
		want := byWord(n, l)
		x, as := given(l)
		first, second := made(t, n, x...), made(t, n, x...)
		overwrite(first)
		if !unchanged(x, as) {
			t.Errorf("Of(%s) tells memory that it was given", showAll(l))
		}
		for _, s := range x {
			overwrite(s)
		}
		if !slices.Equal(second, want) {
			t.Errorf("what was told is %s by now, not %s", show(second), show(want))
		}
	}
}

// R7: all of them may be one memory.
func TestAllAreOne(t *testing.T) {
	for _, s := range []string{"", "k3", "+x d1", "d1 +x", "k1 +x d1 k1", "+xy k1 d2", "d1 k1 +\xC3\xA9 k2"} {
		x, as := withRest(read(s))
		n := op.In(x)
		for many := range 6 {
			l := slices.Repeat([][]api.Span{x}, many)
			if got, e := fuse.Of(n, l...); e != api.OK || !slices.Equal(got, byWord(n, l)) {
				t.Errorf("Of %d times %s = %s, %d", many, s, show(got), e)
			}
		}
		if !slices.Equal(x[:cap(x)], as) {
			t.Errorf("Of changed %s", show(x))
		}
	}
}

// R2 and R6: an error in between changes nothing of what is told next.
func TestAnErrorChangesNothing(t *testing.T) {
	l := reads("+a d1 k1 +b", "k1 +x d1 k1", "d1 k2")
	for _, x := range wrong {
		for i := range l {
			checkFails(t, 2, with(l, i, row(put("left"), keep(1), x.s)), x.code)
			checkFails(t, 2, with(l, i, row(put("left"), keep(9))), api.ErrLen)
			checkFails(t, -1, l, api.ErrSize)
			checkBoth(t, 2, l, read("+x d2 +b"))
		}
	}
}
