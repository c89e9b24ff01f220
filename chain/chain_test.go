package chain_test

import (
	"fmt"
	"math"
	"math/rand"
	"slices"
	"strconv"
	"strings"
	"testing"
	"unicode/utf8"
	"unsafe"

	"epitome/api"
	"epitome/apply"
	"epitome/chain"
	"epitome/normal"
	"epitome/op"
)

// The bounds, written out anew: most is how many code points a text may have, mostRevs how many revisions a log, and greatest the greatest number of one.
const (
	most     = 1048576
	mostRevs = 65536
	greatest = 268435455
)

func keep(n int) api.Span { return api.Span{Kind: 1, N: n} }

func put(text string) api.Span { return api.Span{Kind: 2, Text: text} }

func drop(n int) api.Span { return api.Span{Kind: 3, N: n} }

func row(l ...api.Span) []api.Span { return l }

func rows(l ...[]api.Span) [][]api.Span { return l }

// empties are the empty spans, one of each kind.
var empties = row(keep(0), put(""), drop(0))

// read is an operation that is written down: k and a number keep so many, d and a number drop so many, + and a text put that.
func read(s string) []api.Span {
	var l []api.Span
	for _, word := range strings.Fields(s) {
		n, _ := strconv.Atoi(word[1:])
		switch word[0] {
		case 'k':
			l = append(l, keep(n))
		case 'd':
			l = append(l, drop(n))
		case '+':
			l = append(l, put(word[1:]))
		}
	}
	return l
}

// reads are operations that are written down.
func reads(l ...string) [][]api.Span {
	var all [][]api.Span
	for _, s := range l {
		all = append(all, read(s))
	}
	return all
}

// points are code points of one, two, three and four bytes; U+FFFD, U+0000 and one that stands on the one ahead are among them.
var points = []string{"a", "\xC3\xA9", "\xE2\x82\xAC", "\xF0\x9F\x98\x80", "\x00", "\xEF\xBF\xBD", "\xCC\x81", "\xF4\x8F\xBF\xBF", "\x7F", "\xED\x9F\xBF"}

// noTexts are strings that are no UTF-8 of code points.
var noTexts = []string{"\xFF", "\x80", "\xC3", "a\xFFb", "\xC3\xA9\xC3", "\xC0\x80", "\xED\xA0\x80", "\xF4\x90\x80\x80", "\xF0\x9F\x98", "ab\xE2\x82"}

// wrong are spans that may not be, each with its error.
var wrong = []struct {
	s    api.Span
	code api.Errno
}{
	{api.Span{}, api.ErrKind},
	{api.Span{Kind: 4, N: 7}, api.ErrKind},
	{api.Span{Kind: -1, N: 5, Text: "a"}, api.ErrKind},
	{api.Span{Kind: math.MinInt, N: math.MaxInt, Text: "\xFF"}, api.ErrKind},
	{keep(-1), api.ErrSize},
	{keep(most + 1), api.ErrSize},
	{keep(math.MaxInt), api.ErrSize},
	{drop(-2), api.ErrSize},
	{drop(most + 1), api.ErrSize},
	{drop(math.MinInt), api.ErrSize},
	{api.Span{Kind: 1, N: -3, Text: "a"}, api.ErrSize},
	{api.Span{Kind: 2, N: 1, Text: "abc"}, api.ErrSize},
	{api.Span{Kind: 2, N: -1, Text: "\xC3"}, api.ErrSize},
	{api.Span{Kind: 1, N: 1, Text: "a"}, api.ErrText},
	{api.Span{Kind: 3, N: 1, Text: "ab"}, api.ErrText},
	{api.Span{Kind: 1, Text: "\xFF"}, api.ErrText},
	{put("a\xFF"), api.ErrText},
	{put("\xED\xA0\x80"), api.ErrText},
}

// quote is a text to be read, no more than the beginning.
func quote(s string) string {
	return fmt.Sprintf("%d bytes %+q", len(s), s[:min(len(s), 30)])
}

// show is an operation to be read, with no more than the beginnings of its texts.
func show(l []api.Span) string {
	var s []string
	for _, x := range l[:min(len(l), 8)] {
		s = append(s, fmt.Sprintf("{%d %d %+q}", x.Kind, x.N, x.Text[:min(len(x.Text), 20)]))
	}
	return fmt.Sprintf("%d: %s", len(l), strings.Join(s, " "))
}

// showLog is a log to be read, no more than the first segments and the last one.
func showLog(c api.Log) string {
	s := []string{quote(c.Base), fmt.Sprintf("%d revisions %d", len(c.Revs), c.Revs[:min(len(c.Revs), 8)]), fmt.Sprint(len(c.Segs), " segments")}
	for i, x := range c.Segs {
		if i < 5 || i == len(c.Segs)-1 {
			s = append(s, show(x))
		}
	}
	return strings.Join(s, " | ")
}

// revs are so many revisions, that rise by different numbers.
func revs(n int) []int {
	l := make([]int, n)
	for i := range l {
		l[i] = 3*i + i%2
	}
	return l
}

// log is the log of a text and segments.
func log(base string, segs ...[]api.Span) api.Log {
	return api.Log{Base: base, Revs: revs(len(segs) + 1), Segs: segs}
}

// withRest is l in a memory that goes on behind it, with more in it, and that memory as it is.
func withRest[T any](l []T, more ...T) (given, as []T) {
	given = make([]T, len(l), len(l)+len(more))
	copy(given, l)
	copy(given[len(l):cap(given)], more)
	return given, slices.Clone(given[:cap(given)])
}

// memory is a log of which all lists stand in memory that goes on behind them, and all of that as it was.
type memory struct {
	c    api.Log
	revs []int
	segs [][]api.Span
}

func inMemory(c api.Log) memory {
	m := memory{c: c}
	m.c.Revs, m.revs = withRest(c.Revs, greatest-1, -7, greatest)
	m.c.Segs, _ = withRest(c.Segs, read("k7 +rest"), read("d9"))
	all := m.c.Segs[:cap(m.c.Segs)]
	for i, x := range all {
		given, as := withRest(x, keep(11), put("rest"), drop(13))
		all[i] = given
		m.segs = append(m.segs, as)
	}
	return m
}

// unchanged tells whether all of it is as it was.
func (m memory) unchanged() bool {
	return slices.Equal(m.c.Revs[:cap(m.c.Revs)], m.revs) &&
		slices.EqualFunc(m.c.Segs[:cap(m.c.Segs)], m.segs, func(x, y []api.Span) bool { return slices.Equal(x[:cap(x)], y) })
}

// beyond are places that no log with n segments has.
func beyond(n int) []int {
	return []int{-1, -2, -n - 1, math.MinInt, n + 1, n + 2, 2*n + 2, 1 << 32, math.MaxInt}
}

// ask holds what May, At and Sizes tell of a log against the texts that are wanted of it, none if there is an error. It asks twice: what was told once must not come to be another thing; what was handed in, and what stands behind it in its memory, stays as it was.
func ask(t *testing.T, c api.Log, texts []string, code api.Errno) {
	t.Helper()
	m := inMemory(c)
	var sizes []int
	outside := code
	for _, s := range texts {
		sizes = append(sizes, utf8.RuneCountInString(s))
	}
	if code == api.OK {
		outside = api.ErrRange
	}
	for range 2 {
		if e := chain.May(m.c); e != code {
			t.Errorf("May(%s) = %d, want %d", showLog(c), e, code)
		}
		if l, e := chain.Sizes(m.c); !slices.Equal(l, sizes) || e != code {
			t.Errorf("Sizes(%s) = %d, %d, want %d, %d", showLog(c), l, e, sizes, code)
		}
		for _, i := range beyond(len(c.Segs)) {
			if s, e := chain.At(m.c, i); s != "" || e != outside {
				t.Errorf("At(%s, %d) = %s, %d, want %d", showLog(c), i, quote(s), e, outside)
			}
		}
		for i, want := range texts {
			if s, e := chain.At(m.c, i); s != want || e != api.OK {
				t.Errorf("At(%s, %d) = %s, %d, want %s", showLog(c), i, quote(s), e, quote(want))
			}
		}
	}
	if !m.unchanged() || m.c.Base != c.Base {
		t.Errorf("%s was changed", showLog(c))
	}
}

// checkWrong holds a log that may not be to its error: with that nothing else is told, at whatever place.
func checkWrong(t *testing.T, c api.Log, code api.Errno) {
	t.Helper()
	ask(t, c, nil, code)
	for i := range min(len(c.Segs), 20) + 1 {
		if s, e := chain.At(c, i); s != "" || e != code {
			t.Errorf("At(%s, %d) = %s, %d, want %d", showLog(c), i, quote(s), e, code)
		}
	}
}

// textsOf are the texts of a log that may be: each is what the segment makes of the one ahead.
func textsOf(t *testing.T, c api.Log) []string {
	t.Helper()
	texts := []string{c.Base}
	for i, x := range c.Segs {
		s, e := apply.To(x, texts[i])
		if e != api.OK || !normal.Is(x) {
			t.Fatalf("segment %d of %s may not be: %d", i, showLog(c), e)
		}
		texts = append(texts, s)
	}
	return texts
}

// checkCode is checkWrong with less asked, for logs that are long, or many: to go through them takes its time.
func checkCode(t *testing.T, c api.Log, code api.Errno) {
	t.Helper()
	if e := chain.May(c); e != code {
		t.Errorf("May(%s) = %d, want %d", showLog(c), e, code)
	}
	if l, e := chain.Sizes(c); len(l) != 0 || e != code {
		t.Errorf("Sizes(%s) = %d, %d, want %d", showLog(c), l, e, code)
	}
	for _, i := range []int{-1, 0} {
		if s, e := chain.At(c, i); s != "" || e != code {
			t.Errorf("At(%s, %d) = %s, %d, want %d", showLog(c), i, quote(s), e, code)
		}
	}
}

// check holds a log that may be, and each beginning of it, to its texts.
func check(t *testing.T, c api.Log) {
	t.Helper()
	texts := textsOf(t, c)
	for n := range len(c.Segs) + 1 {
		ask(t, api.Log{Base: c.Base, Revs: c.Revs[:n+1], Segs: c.Segs[:n]}, texts[:n+1], api.OK)
	}
}

// P16.1 and P16.2: the chapter's example.
func TestExample(t *testing.T) {
	c := api.Log{Base: "ab", Revs: []int{0, 3}, Segs: reads("k2 +c")}
	ask(t, c, []string{"ab", "abc"}, api.OK)
	check(t, c)
}

// bases are texts to begin with.
var bases = []string{"", "a", "ab", "\x00", "\xEF\xBF\xBD", "e\xCC\x81", strings.Join(points, ""), strings.Repeat("\xC3\xA9z", 50)}

// P16.1 and P16.2: logs without a segment.
func TestNoSegment(t *testing.T) {
	for _, base := range bases {
		for _, r := range []int{0, 1, 2, 127, 128, 65536, greatest - 1, greatest} {
			ask(t, api.Log{Base: base, Revs: []int{r}}, []string{base}, api.OK)
			ask(t, api.Log{Base: base, Revs: []int{r}, Segs: rows()}, []string{base}, api.OK)
		}
	}
}

// P16.1 and P16.2: logs with one segment, of each kind of spans, and with something put and dropped in either order.
func TestOneSegment(t *testing.T) {
	for _, x := range []struct{ base, seg, want string }{
		{"", "", ""},
		{"", "+x", "x"},
		{"", "+\xC3\xA9y", "\xC3\xA9y"},
		{"a", "k1", "a"},
		{"a", "d1", ""},
		{"a", "+x k1", "xa"},
		{"a", "k1 +x", "ax"},
		{"a", "d1 +x", "x"},
		{"a", "+x d1", "x"},
		{"\xC3\xA9\xE2\x82\xAC", "k1 d1", "\xC3\xA9"},
		{"\xC3\xA9\xE2\x82\xAC", "d1 k1", "\xE2\x82\xAC"},
		{"\xC3\xA9\xE2\x82\xAC", "k1 +x k1", "\xC3\xA9x\xE2\x82\xAC"},
		{"abc", "k1 d1 +x k1", "axc"},
		{"abc", "k1 +x d1 k1", "axc"},
		{"abc", "+p d1 +q d1 +r d1 +s", "pqrs"},
		{"abc", "d1 +q d1 +r d1", "qr"},
		{"a\xF0\x9F\x98\x80c", "k1 +\xF0\x9F\x98\x80 d1 k1 +\xF0\x9F\x98\x80", "a\xF0\x9F\x98\x80c\xF0\x9F\x98\x80"},
	} {
		c := log(x.base, read(x.seg))
		ask(t, c, []string{x.base, x.want}, api.OK)
		check(t, c)
	}
}

// some is a log of some segments, among them one that takes and gives nothing.
func some() api.Log {
	return log("a\xC3\xA9c", reads("k2 +x k1", "k1 d1 k2", "+\xE2\x82\xAC k3 +b", "k5", "d5", "", "+xyz", "k1 d1 k1", "d2 +\xF0\x9F\x98\x80q", "k1 +w d1")...)
}

// P16.1 and P16.2: logs with some segments, and each beginning of them.
func TestSomeSegments(t *testing.T) {
	c := some()
	ask(t, c, []string{"a\xC3\xA9c", "a\xC3\xA9xc", "axc", "\xE2\x82\xACaxcb", "\xE2\x82\xACaxcb", "", "", "xyz", "xz", "\xF0\x9F\x98\x80q", "\xF0\x9F\x98\x80w"}, api.OK)
	check(t, c)
	check(t, log("", nil, read("+a"), read("k1 +b"), read("k2 +c"), read("d3"), nil))
	check(t, log("ab", read("d2"), nil, row(), nil, read("+\xC3\xA9")))
}

// P16.1 and P16.2: logs with many segments, that make the text longer and shorter again.
func TestManySegments(t *testing.T) {
	r := rand.New(rand.NewSource(161))
	for _, many := range []int{50, 150} {
		check(t, anyLog(r, many))
	}
	const far = 3000
	c := anyLog(r, far)
	ask(t, c, textsOf(t, c), api.OK)
}

// anyOf is an operation in its shortest form, that takes n, of the numbers that r tells, which are the same ones each time.
func anyOf(r *rand.Rand, n int) []api.Span {
	var l []api.Span
	for n > 0 || r.Intn(3) == 0 {
		many := min(1+r.Intn(6), n)
		switch r.Intn(4) {
		case 0:
			l = append(l, drop(many))
			n -= many
		case 1:
			l = append(l, put(points[r.Intn(len(points))]+string(rune('A'+r.Intn(26)))))
		default:
			l = append(l, keep(many))
			n -= many
		}
	}
	return normal.Of(l)
}

// anyLog is a log with so many segments, that may be.
func anyLog(r *rand.Rand, many int) api.Log {
	c := api.Log{Base: strings.Join(points[:r.Intn(len(points))], ""), Revs: []int{r.Intn(300)}}
	n := utf8.RuneCountInString(c.Base)
	for i := range many {
		c.Segs = append(c.Segs, anyOf(r, n))
		n = op.Out(c.Segs[i])
		c.Revs = append(c.Revs, c.Revs[i]+1+r.Intn(200))
	}
	return c
}

// after are segments for logs of which something ahead of these is wrong: some that may be, and some that may not.
var after = [][][]api.Span{nil, rows(nil), rows(read("+x"), read("k1 +y")), rows(row(api.Span{})), rows(read("k5")), rows(row(keep(0)))}

// P16.1: a base that is no text is told ahead of all else.
func TestBaseIsNoText(t *testing.T) {
	long := strings.Repeat("a", most)
	for _, x := range noTexts {
		for _, base := range []string{x, "abc" + x, x + "\xC3\xA9"} {
			for _, segs := range after {
				c := log(base, segs...)
				checkWrong(t, c, api.ErrText)
				for _, l := range noRevs(len(segs)) {
					c.Revs = l
					checkWrong(t, c, api.ErrText)
				}
			}
		}
		for _, base := range []string{long[1:] + x, long + x, x + long} {
			checkCode(t, log(base), api.ErrText)
			checkCode(t, api.Log{Base: base, Segs: rows(row(api.Span{}))}, api.ErrText)
		}
	}
}

// P16.1: a base of 2^20 code points may be, whatever they are; one of more may not, and that is told ahead of its revisions and segments.
func TestLongBases(t *testing.T) {
	for _, p := range points {
		base := strings.Repeat(p, most)
		checkMany(t, log(base), []int{most}, map[int]string{0: base})
		checkMany(t, log(base, row(drop(most-1), keep(1)), row(keep(1), put("x"))), []int{most, 1, 2}, map[int]string{0: base, 1: p, 2: p + "x"})
		for _, more := range []string{p, "a", p + p, base} {
			checkCode(t, log(base+more), api.ErrBig)
		}
	}
	base := strings.Repeat("\xC3\xA9", most)
	for _, segs := range append(slices.Clone(after), rows(row(keep(most))), rows(row(keep(most), drop(1))), rows(row(keep(most), keep(1)))) {
		checkCode(t, log("a"+base, segs...), api.ErrBig)
		for _, l := range noRevs(len(segs)) {
			c := api.Log{Base: base + "a", Revs: l, Segs: segs}
			if e := chain.May(c); e != api.ErrBig {
				t.Errorf("May(%s) = %d", showLog(c), e)
			}
		}
	}
}

// noRevs are rows that may not be the revisions of a log with n segments.
func noRevs(n int) [][]int {
	one := revs(n + 1)
	all := [][]int{nil, {}, revs(n), revs(n + 2), revs(n + 3), revs(2*n + 3), append(slices.Clone(one), greatest+1), append(slices.Clone(one), one[n])}
	for i := range n + 1 {
		for _, r := range []int{-1, -2, -greatest, math.MinInt, greatest + 1, 1 << 32, math.MaxInt} {
			all = append(all, with(one, i, r))
		}
		if i > 0 {
			all = append(all, with(one, i, one[i-1]), with(one, i, one[i-1]-1), with(one, i, 0), with(with(one, i, one[i-1]), i-1, one[i]))
		}
	}
	return all
}

// with is l with one thing made another one.
func with[T any](l []T, i int, x T) []T {
	l = slices.Clone(l)
	l[i] = x
	return l
}

// P16.1: revisions that are none, do not rise, are below 0 or above 2^28 - 1, or are too few or too many, at each place; and that is told ahead of what is wrong with a segment.
func TestRevisionsThatMayNotBe(t *testing.T) {
	long := put(strings.Repeat("x", most))
	for n := range 8 {
		segs := make([][]api.Span, n)
		check(t, log("", segs...))
		for _, l := range noRevs(n) {
			checkWrong(t, api.Log{Revs: l, Segs: segs}, api.ErrRange)
			for i := range segs {
				for _, x := range rows(row(api.Span{}), read("k1"), row(keep(most), keep(1)), row(long, put("y")), row(keep(0))) {
					checkCode(t, api.Log{Revs: l, Segs: with(segs, i, x)}, api.ErrRange)
				}
			}
		}
	}
	for _, l := range noRevs(len(some().Segs)) {
		c := some()
		c.Revs = l
		checkWrong(t, c, api.ErrRange)
	}
}

// P16.1: revisions that may be, at the bounds, next to each other and far apart.
func TestRevisionsThatMayBe(t *testing.T) {
	for _, l := range [][]int{{0, 1}, {0, greatest}, {greatest - 1, greatest}, {5, 6, 7}, {0, 127, 128, 16384, 2097152, greatest}, {1, 3, 4, 100, 101}} {
		c := log("ab", slices.Repeat(reads("k2"), len(l)-1)...)
		c.Revs = l
		check(t, c)
	}
}

// checkMany holds a log that is long to how many code points its texts have, and to some of these.
func checkMany(t *testing.T, c api.Log, sizes []int, texts map[int]string) {
	t.Helper()
	m := inMemory(c)
	if e := chain.May(m.c); e != api.OK {
		t.Errorf("May(%s) = %d", showLog(c), e)
	}
	if l, e := chain.Sizes(m.c); !slices.Equal(l, sizes) || e != api.OK {
		t.Errorf("Sizes(%s) = %d numbers, %d", showLog(c), len(l), e)
	}
	for i, want := range texts {
		if s, e := chain.At(m.c, i); s != want || e != api.OK {
			t.Errorf("At(%s, %d) = %s, %d, want %s", showLog(c), i, quote(s), e, quote(want))
		}
	}
	for _, i := range beyond(len(c.Segs)) {
		if s, e := chain.At(m.c, i); s != "" || e != api.ErrRange {
			t.Errorf("At(%s, %d) = %s, %d", showLog(c), i, quote(s), e)
		}
	}
	if !m.unchanged() {
		t.Errorf("%s was changed", showLog(c))
	}
}

// P16.1 and P16.2: as many revisions as a row may have; more of them, and those with a segment too few or too many, may not be.
func TestVeryManyRevisions(t *testing.T) {
	segs := make([][]api.Span, 2*mostRevs)
	for _, n := range []int{mostRevs - 1, mostRevs} {
		c := log("", segs[:n-1]...)
		checkMany(t, c, make([]int, n), map[int]string{0: "", 1: "", n - 1: ""})
		for _, other := range []int{0, n - 2, n, n + 1} {
			c.Segs = segs[:other]
			checkCode(t, c, api.ErrRange)
		}
	}
	for _, n := range []int{mostRevs + 1, mostRevs + 2, 2 * mostRevs} {
		c := log("", segs[:n-1]...)
		checkCode(t, c, api.ErrRange)
		checkCode(t, withSeg(c, 0, row(api.Span{})), api.ErrRange)
	}
}

// P16.1 and P16.2: very many segments: what the text is behind each of them must not be worked out to tell that they may be.
func TestVeryManySegments(t *testing.T) {
	const many = mostRevs - 1
	long := strings.Repeat("\xC3\xA9", most)
	checkMany(t, log(long, slices.Repeat(rows(row(keep(most))), many)...), slices.Repeat([]int{most}, many+1), map[int]string{0: long, 1: long, 5: long})
	var grow [][]api.Span
	sizes := []int{1}
	for i := range many {
		grow = append(grow, row(keep(i+1), put("x")))
		sizes = append(sizes, i+2)
	}
	x := strings.Repeat("x", many)
	checkMany(t, log("y", grow...), sizes, map[int]string{0: "y", 1: "yx", 2: "yxx", 1000: "y" + x[:1000], 5000: "y" + x[:5000]})
	for _, i := range []int{0, 1, many / 2, many - 1} {
		checkCode(t, log("y", with(grow, i, row(keep(i)))...), api.ErrLen)
		checkCode(t, log("y", with(grow, i, row(put("x"), keep(i+1), drop(0)))...), api.ErrForm)
		checkCode(t, log("y", with(grow, i, row(put("\xFF"), keep(i+1)))...), api.ErrText)
	}
}

// around are spans of which each stands next to wrong ones; all of them may be.
var around = rows(nil, row(keep(1)), row(put("a")), row(drop(1)), empties, row(keep(2), put("x"), drop(1)))

// P16.1: op's error of a segment that may not be, as the first one, in the middle, and as the last one, whether what is left of it fits, and is short, or not.
func TestSegmentsThatMayNotBe(t *testing.T) {
	c := some()
	sizes, e := chain.Sizes(c)
	if e != api.OK {
		t.Fatal(e)
	}
	for i, fits := range c.Segs {
		for _, x := range wrong {
			for _, m := range around {
				checkWrong(t, withSeg(c, i, slices.Concat(m, row(x.s))), x.code)
				checkWrong(t, withSeg(c, i, slices.Concat(row(x.s), m)), x.code)
			}
			for at := range len(fits) + 1 {
				checkWrong(t, withSeg(c, i, slices.Insert(slices.Clone(fits), at, x.s)), x.code)
			}
			for _, y := range wrong {
				checkWrong(t, withSeg(c, i, row(x.s, keep(1), y.s)), x.code)
			}
		}
		checkWrong(t, withSeg(c, i, row(keep(most), drop(1))), api.ErrBig)
		checkWrong(t, withSeg(c, i, row(put("x"), drop(most), keep(most), put("y"))), api.ErrBig)
		checkWrong(t, withSeg(c, i, slices.Repeat(row(drop(most)), 4096)), api.ErrBig)
		checkWrong(t, withSeg(c, i, row(put("\xC3"), put("\xA9"), keep(sizes[i]))), api.ErrText)
	}
}

// withSeg is a log with one segment made another one.
func withSeg(c api.Log, i int, seg []api.Span) api.Log {
	c.Segs = with(c.Segs, i, seg)
	return c
}

// P16.1: a segment that takes one code point more than there are, or one less, or other numbers of them, as the first one, in the middle, and as the last one; bytes do not count, and neither do those of the base later on.
func TestSegmentsThatDoNotFit(t *testing.T) {
	c := some()
	sizes, _ := chain.Sizes(c)
	for i, fits := range c.Segs {
		n := sizes[i]
		for _, m := range []int{n - 2, n - 1, n + 1, n + 2, n + 100, len(textsOf(t, c)[i]), len(c.Base), sizes[0], sizes[i+1], most} {
			if m < 0 || m == n {
				continue
			}
			for _, x := range rows(row(keep(m)), row(drop(m)), row(put("x"), keep(m)), row(drop(m), put("xyz"))) {
				checkWrong(t, withSeg(c, i, normal.Of(x)), api.ErrLen)
			}
		}
		for _, x := range row(keep(1), drop(1)) {
			checkWrong(t, withSeg(c, i, normal.Of(append(slices.Clone(fits), x))), api.ErrLen)
			checkWrong(t, withSeg(c, i, normal.Of(slices.Concat(row(x), fits))), api.ErrLen)
		}
		if n > 0 {
			checkWrong(t, withSeg(c, i, nil), api.ErrLen)
		}
	}
	for _, base := range []string{"", "ab", "\xC3\xA9", "\xC3\xA9ab\x00", strings.Repeat("x", most)} {
		other := some()
		other.Base = base
		checkWrong(t, other, api.ErrLen)
	}
	checkWrong(t, log("a", read("+x k1"), read("k1")), api.ErrLen)
	checkWrong(t, log("a", read("k1 +\xC3\xA9"), read("k3")), api.ErrLen)
	checkWrong(t, log("ab", read("k1 d1"), read("k2")), api.ErrLen)
}

// P16.1: a segment that gives 2^20 code points may be, one that gives one more may not, as the first one, in the middle, and as the last one; and none behind it is asked.
func TestSegmentsThatGiveTooMany(t *testing.T) {
	for _, p := range points {
		long := strings.Repeat(p, most)
		fewer := long[len(p):]
		checkMany(t, log("ab", row(keep(1), put(fewer), drop(1))), []int{2, most}, map[int]string{0: "ab", 1: "a" + fewer})
		checkCode(t, log("ab", row(keep(1), put(long), drop(1))), api.ErrBig)
		checkCode(t, log("ab", read("k2"), row(keep(1), put(fewer), drop(1), put("x"))), api.ErrBig)
	}
	long := strings.Repeat("\xC3\xA9", most)
	fewer := long[2:]
	check(t, log("ab", row(keep(2), put(fewer[2:])), row(keep(most)), row(drop(1), keep(most-1), put("c")), row(drop(most), put("c"))))
	for _, ahead := range [][][]api.Span{nil, reads("k2"), reads("d2", "", "+xy"), reads("k1 +x k1", "k2 d1")} {
		for _, seg := range rows(row(keep(2), put(fewer)), row(put(fewer), keep(1), drop(1), put("c")), row(drop(2), put(long+"c")), row(put("c"), keep(1), put(long), drop(1))) {
			segs := append(slices.Clone(ahead), seg)
			checkCode(t, log("ab", segs...), api.ErrBig)
			for _, then := range rows(row(keep(most+1)), row(keep(2)), row(api.Span{}), empties) {
				checkCode(t, log("ab", append(slices.Clone(segs), then)...), api.ErrBig)
			}
		}
	}
	checkCode(t, log(long, row(keep(most), put("x"))), api.ErrBig)
	checkCode(t, log(long, row(keep(most)), row(put("x"), keep(most))), api.ErrBig)
	checkCode(t, log(long, row(put("x"), keep(most)), row(drop(1), keep(most))), api.ErrBig)
	check(t, log(long, row(put("x"), keep(most-1), drop(1)), row(keep(most-1), drop(1), put("y"))))
}

// P16.1: a segment with an empty span of each kind, or with two of one kind next to each other, at each place of it, as the first one, in the middle, and as the last one.
func TestSegmentsThatAreNotShort(t *testing.T) {
	c := some()
	for i, fits := range c.Segs {
		for at := range len(fits) + 1 {
			for _, x := range empties {
				checkWrong(t, withSeg(c, i, slices.Insert(slices.Clone(fits), at, x)), api.ErrForm)
			}
			checkWrong(t, withSeg(c, i, slices.Insert(slices.Clone(fits), at, empties...)), api.ErrForm)
		}
		for at, x := range fits {
			for _, two := range apart(x) {
				checkWrong(t, withSeg(c, i, slices.Concat(fits[:at], two, fits[at+1:])), api.ErrForm)
			}
		}
		checkWrong(t, withSeg(c, i, slices.Concat(row(put("p"), put("q")), fits)), api.ErrForm)
	}
	for _, x := range []string{"k1 k1", "d1 d1", "k1 k1 +x", "+x d1 d1", "d1 +x +y d1", "+x +x d2", "k1 d1 +x +y", "d0 k2", "k2 k0"} {
		checkWrong(t, log("ab", read(x)), api.ErrForm)
		checkWrong(t, log("b", read("+a k1"), read(x), read("k1")), api.ErrForm)
	}
}

// apart is a span as two of its kind, in each way.
func apart(s api.Span) [][]api.Span {
	var all [][]api.Span
	for n := range s.N + 1 {
		one, two := s, s
		one.N, two.N = n, s.N-n
		all = append(all, row(one, two))
	}
	for at := range s.Text {
		all = append(all, row(put(s.Text[:at]), put(s.Text[at:])))
	}
	return all
}

// P16.1: what is dropped, and what is put next to it, may stand in any order, since the shortest form leaves each in its place; the text is the same.
func TestEitherOrder(t *testing.T) {
	for _, x := range []struct {
		want string
		segs []string
	}{
		{"axc", []string{"k1 d1 +x k1", "k1 +x d1 k1"}},
		{"x", []string{"d3 +x", "+x d3", "d1 +x d2", "d2 +x d1"}},
		{"xyz", []string{"+x d1 +y d1 +z d1", "d1 +x d1 +y d1 +z", "+x d2 +yz d1", "d1 +xy d2 +z"}},
	} {
		for _, seg := range x.segs {
			ask(t, log("abc", read(seg)), []string{"abc", x.want}, api.OK)
			check(t, log("", read("+abc"), read(seg), row(drop(len(x.want)))))
		}
	}
}

// P16.1 and R3: of several things that are wrong with one segment the first one that the chapter names is told: all of them in all pairings, in either order of the spans.
func TestWhichFaultOfASegment(t *testing.T) {
	long := strings.Repeat("y", most)
	codes := []api.Errno{api.ErrKind, api.ErrLen, api.ErrBig, api.ErrForm}
	for faults := 1; faults < 1<<len(codes); faults++ {
		var l []api.Span
		code := api.OK
		for i, x := range rows(row(api.Span{}), read("d1"), row(put(long)), row(drop(0))) {
			if faults&(1<<i) == 0 {
				continue
			}
			l = append(l, x...)
			if code == api.OK {
				code = codes[i]
			}
		}
		l = append(l, keep(2))
		back := slices.Clone(l)
		slices.Reverse(back)
		for n := range 4 {
			ahead := slices.Repeat(reads("k2"), n)
			checkCode(t, log("ab", append(ahead, l)...), code)
			checkCode(t, log("ab", append(ahead, back, read("k2"))...), code)
		}
	}
	// What op tells of all of a segment is told ahead of how much it takes and gives, and of its form.
	checkCode(t, log("ab", row(keep(most), keep(1), put(long+"y"))), api.ErrBig)
	checkCode(t, log("ab", row(keep(most), keep(1), put(long+"y"), drop(-1))), api.ErrSize)
	checkCode(t, log("ab", row(keep(3), put(long+"y"), put("\xFF"))), api.ErrText)
	checkCode(t, log("ab", row(keep(3), put(long+"y"), put("z"))), api.ErrLen)
	checkCode(t, log("ab", row(keep(1), keep(1), put(long))), api.ErrBig)
	checkCode(t, log("ab", row(keep(1), keep(1), keep(1))), api.ErrLen)
}

// P16.1 and R3: of several segments that are wrong the first one is told, whatever is wrong with it.
func TestWhichSegmentIsTold(t *testing.T) {
	c := log("ab", slices.Repeat(reads("k2"), 5)...)
	faults := []struct {
		l    []api.Span
		code api.Errno
	}{
		{row(api.Span{}), api.ErrKind}, {row(keep(-1)), api.ErrSize}, {row(put("\xFF"), keep(2)), api.ErrText}, {row(keep(most), keep(most)), api.ErrBig},
		{read("k1"), api.ErrLen}, {read("k3"), api.ErrLen}, {row(keep(2), put(strings.Repeat("x", most))), api.ErrBig}, {read("k1 k1"), api.ErrForm}, {row(keep(0), keep(2)), api.ErrForm},
	}
	for i := range c.Segs {
		for _, x := range faults {
			one := withSeg(c, i, x.l)
			checkCode(t, one, x.code)
			for j := i + 1; j < len(c.Segs); j++ {
				for _, y := range faults {
					checkCode(t, withSeg(one, j, y.l), x.code)
				}
			}
		}
	}
}

// P16.1: each beginning of a log that may be may be, and of one that may not be each that ends ahead of the first fault.
func TestEachBeginning(t *testing.T) {
	c := some()
	for i := range c.Segs {
		faulty := withSeg(c, i, row(api.Span{Kind: 9}))
		for n := range len(c.Segs) + 1 {
			part := api.Log{Base: c.Base, Revs: c.Revs[:n+1], Segs: faulty.Segs[:n]}
			want := api.OK
			if n > i {
				want = api.ErrKind
			}
			if e := chain.May(part); e != want {
				t.Errorf("May(%s) = %d, want %d", showLog(part), e, want)
			}
		}
	}
}

// P16.2: May's error is told ahead of ErrRange, whatever is asked of.
func TestErrorsOfMayFirst(t *testing.T) {
	for _, x := range []struct {
		c    api.Log
		code api.Errno
	}{
		{api.Log{}, api.ErrRange},
		{api.Log{Base: "\xFF"}, api.ErrText},
		{log("a", read("k2")), api.ErrLen},
		{log("a", read("k1"), row(api.Span{})), api.ErrKind},
		{log("a", read("k1"), row(keep(-1))), api.ErrSize},
		{log("a", read("k1"), row(keep(0), keep(1))), api.ErrForm},
		{log("a", read("k1"), row(keep(1), put(strings.Repeat("x", most)))), api.ErrBig},
	} {
		checkWrong(t, x.c, x.code)
		for _, i := range append(beyond(len(x.c.Segs)), 0, 1, 2, 3) {
			if s, e := chain.At(x.c, i); s != "" || e != x.code {
				t.Errorf("At(%s, %d) = %s, %d, want %d", showLog(x.c), i, quote(s), e, x.code)
			}
		}
	}
}

// mayRow is what is wrong with revisions, and maySeg with a segment, by the words of their chapters.
func mayRow(l []int) bool {
	for i, n := range l {
		if n < 0 || n > greatest || i > 0 && n <= l[i-1] {
			return false
		}
	}
	return len(l) > 0 && len(l) <= mostRevs
}

func maySeg(l []api.Span) api.Errno {
	takes := 0
	for _, s := range l {
		puts := s.Kind == 2
		switch {
		case s.Kind < 1 || s.Kind > 3:
			return api.ErrKind
		case puts && s.N != 0, s.N < 0, s.N > most:
			return api.ErrSize
		case puts && !utf8.ValidString(s.Text), !puts && s.Text != "":
			return api.ErrText
		}
		takes += s.N
	}
	if takes > most {
		return api.ErrBig
	}
	return api.OK
}

// does is what a segment that may be makes of code points, and what is wrong with it, by the chapter's words.
func does(l []api.Span, s []rune) ([]rune, api.Errno) {
	takes, short := 0, true
	for i, x := range l {
		takes += x.N
		if x.N == 0 && x.Text == "" || i > 0 && x.Kind == l[i-1].Kind {
			short = false
		}
	}
	if takes != len(s) {
		return nil, api.ErrLen
	}
	var given []rune
	for _, x := range l {
		if x.Kind == 1 {
			given = append(given, s[:x.N]...)
		}
		s = s[x.N:]
		given = append(given, []rune(x.Text)...)
	}
	switch {
	case len(given) > most:
		return nil, api.ErrBig
	case !short:
		return nil, api.ErrForm
	}
	return given, api.OK
}

// byWord are the texts of a log, or what is wrong with it, by the chapter's words.
func byWord(c api.Log) ([]string, api.Errno) {
	s := []rune(c.Base)
	switch {
	case !utf8.ValidString(c.Base):
		return nil, api.ErrText
	case len(s) > most:
		return nil, api.ErrBig
	case !mayRow(c.Revs) || len(c.Revs) != len(c.Segs)+1:
		return nil, api.ErrRange
	}
	texts := []string{c.Base}
	for _, x := range c.Segs {
		e := maySeg(x)
		if e == api.OK {
			s, e = does(x, s)
		}
		if e != api.OK {
			return nil, e
		}
		texts = append(texts, string(s))
	}
	return texts, api.OK
}

// checkWord holds a log against the chapter's words.
func checkWord(t *testing.T, c api.Log) {
	t.Helper()
	texts, e := byWord(c)
	ask(t, c, texts, e)
}

// shortRows are all rows of up to so many of these spans.
func shortRows(spans []api.Span, many int) [][]api.Span {
	if many == 0 {
		return rows(nil)
	}
	fewer := shortRows(spans, many-1)
	all := rows(nil)
	for _, s := range spans {
		for _, l := range fewer {
			all = append(all, append(row(s), l...))
		}
	}
	return all
}

// P16.1 and P16.2: all logs of a short base and up to two short segments, that may be and that may not.
func TestAllShortLogs(t *testing.T) {
	all := shortRows(row(keep(0), keep(1), keep(2), put("\xC3\xA9x"), put(""), drop(1), drop(2), drop(-1), put("\xFF"), api.Span{N: 1}), 2)
	few := shortRows(row(keep(1), keep(2), put("y"), drop(1), drop(0)), 2)
	for _, base := range []string{"", "a", "\xE2\x82\xACb", "\xC3"} {
		checkWord(t, log(base))
		for _, x := range all {
			checkWord(t, log(base, x))
			for _, y := range few {
				checkWord(t, log(base, x, y))
			}
			if t.Failed() {
				return
			}
		}
	}
	bounds := []int{-1, 0, 1, greatest, greatest + 1}
	for _, a := range bounds {
		for _, b := range bounds {
			for _, l := range [][]int{nil, {a}, {a, b}, {a, 0, b}, {a, 1, b}} {
				for _, base := range []string{"a", "ab", "\xFF"} {
					for _, segs := range append(slices.Clone(after), reads("d1"), reads("k1", "k1")) {
						checkWord(t, api.Log{Base: base, Revs: l, Segs: segs})
					}
				}
			}
		}
	}
}

// P16.1 and P16.2: longer logs, that may be, and each of them with something changed.
func TestLongerLogs(t *testing.T) {
	r := rand.New(rand.NewSource(16))
	for range 1500 {
		c := anyLog(r, r.Intn(12))
		checkWord(t, c)
		checkWord(t, changed(r, c))
		if t.Failed() {
			return
		}
	}
}

// changed is a log with one thing of it made another one, by the numbers that r tells.
func changed(r *rand.Rand, c api.Log) api.Log {
	at := r.Intn(len(c.Segs) + 1)
	switch r.Intn(6) {
	case 0:
		c.Base += points[r.Intn(len(points))]
	case 1:
		c.Base = noTexts[r.Intn(len(noTexts))] + c.Base
	case 2:
		c.Revs = with(c.Revs, at, c.Revs[r.Intn(len(c.Revs))]+r.Intn(3)-1)
	case 3:
		c.Segs = c.Segs[:at]
	default:
		if at == len(c.Segs) {
			break
		}
		spans := append(row(keep(1), drop(1), put("x"), wrong[r.Intn(len(wrong))].s), empties...)
		return withSeg(c, at, slices.Insert(slices.Clone(c.Segs[at]), r.Intn(len(c.Segs[at])+1), spans[r.Intn(len(spans))]))
	}
	return c
}

// inBytes is s, standing in bytes that may come to be others.
func inBytes(s string) (string, []byte) {
	b := []byte(s)
	return unsafe.String(unsafe.SliceData(b), len(b)), b
}

// R7: what is told is the caller's own: it does not see what becomes of what was handed in, and of what was told before, nor the other way about.
func TestWhatIsToldIsTheCallersOwn(t *testing.T) {
	for i, want := range []string{"abc", "abc", "abcpq", "bcpq", "pq", "pq"} {
		base, memory := inBytes("abc")
		text, more := inBytes("pq")
		c := log(base, read("k3"), row(keep(3), put(text)), read("d1 k4"), read("d2 k2"), read("k2"))
		m := inMemory(c)
		s, e := chain.At(m.c, i)
		first, f := chain.Sizes(m.c)
		second, _ := chain.Sizes(m.c)
		clear(first[:cap(first)])
		if !m.unchanged() || e != api.OK || f != api.OK {
			t.Errorf("what Sizes tells is what it was given: %d, %d", e, f)
		}
		copy(memory, "...")
		copy(more, "..")
		clear(m.c.Revs[:cap(m.c.Revs)])
		for _, x := range m.c.Segs {
			clear(x[:cap(x)])
		}
		clear(m.c.Segs[:cap(m.c.Segs)])
		if s != want || !slices.Equal(second, []int{3, 3, 5, 4, 2, 2}) {
			t.Errorf("what was told is %q and %d by now, want %q", s, second, want)
		}
	}
}

// R7: all segments may be one memory.
func TestSegmentsThatAreOne(t *testing.T) {
	for _, x := range []string{"k3", "k1 +x d1 k1", "+xyz d3", "d1 +\xC3\xA9 k2"} {
		one := read(x)
		for many := range 6 {
			check(t, log("abc", slices.Repeat(rows(one), many)...))
		}
	}
}

// R2 and R6: an error in between changes nothing of what is told next.
func TestAnErrorChangesNothing(t *testing.T) {
	c := some()
	texts := textsOf(t, c)
	for _, x := range wrong {
		for i := range c.Segs {
			checkWrong(t, withSeg(c, i, row(x.s)), x.code)
			checkWrong(t, api.Log{Base: c.Base, Revs: c.Revs[:i], Segs: c.Segs}, api.ErrRange)
			ask(t, c, texts, api.OK)
		}
	}
}
