package history_test

import (
	"fmt"
	"math"
	"math/rand"
	"slices"
	"strconv"
	"strings"
	"testing"
	"unsafe"

	"epitome/api"
	"epitome/apply"
	"epitome/chain"
	"epitome/compose"
	"epitome/fuse"
	"epitome/history"
	"epitome/normal"
	"epitome/over"
	"epitome/through"
)

// most is how many code points a text may have: 2^20, written out anew.
const most = 1048576

func keep(n int) api.Span { return api.Span{Kind: 1, N: n} }

func put(text string) api.Span { return api.Span{Kind: 2, Text: text} }

func drop(n int) api.Span { return api.Span{Kind: 3, N: n} }

func row(l ...api.Span) []api.Span { return l }

func rows(l ...[]api.Span) [][]api.Span { return l }

// empties are the empty spans, one of each kind.
var empties = row(keep(0), put(""), drop(0))

// read is an operation that is written down: k and a number keep so many, d and a number drop so many, + and a text put that.
func read(s string) []api.Span {
	var l []api.Span
	for _, word := range strings.Fields(s) {
		n, _ := strconv.Atoi(word[1:])
		switch word[0] {
		case 'k':
			l = append(l, keep(n))
		case 'd':
			l = append(l, drop(n))
		case '+':
			l = append(l, put(word[1:]))
		}
	}
	return l
}

// reads are operations that are written down.
func reads(l ...string) [][]api.Span {
	var all [][]api.Span
	for _, s := range l {
		all = append(all, read(s))
	}
	return all
}

// points are code points of one, two, three and four bytes; U+FFFD, U+0000 and one that stands on the one ahead are among them.
var points = []string{"a", "\xC3\xA9", "\xE2\x82\xAC", "\xF0\x9F\x98\x80", "\x00", "\xEF\xBF\xBD", "\xCC\x81", "\xF4\x8F\xBF\xBF", "\x7F", "\xED\x9F\xBF"}

// noTexts are strings that are no UTF-8 of code points.
var noTexts = []string{"\xFF", "\x80", "\xC3", "a\xFFb", "\xC3\xA9\xC3", "\xC0\x80", "\xED\xA0\x80", "\xF4\x90\x80\x80", "\xF0\x9F\x98", "ab\xE2\x82"}

// wrong are spans that may not be, each with its error.
var wrong = []struct {
	s    api.Span
	code api.Errno
}{
	{api.Span{}, api.ErrKind},
	{api.Span{Kind: 4, N: 7}, api.ErrKind},
	{api.Span{Kind: -1, N: 5, Text: "a"}, api.ErrKind},
	{api.Span{Kind: math.MinInt, N: math.MaxInt, Text: "\xFF"}, api.ErrKind},
	{keep(-1), api.ErrSize},
	{keep(most + 1), api.ErrSize},
	{keep(math.MaxInt), api.ErrSize},
	{drop(-2), api.ErrSize},
	{drop(most + 1), api.ErrSize},
	{drop(math.MinInt), api.ErrSize},
	{api.Span{Kind: 1, N: -3, Text: "a"}, api.ErrSize},
	{api.Span{Kind: 2, N: 1, Text: "abc"}, api.ErrSize},
	{api.Span{Kind: 2, N: -1, Text: "\xC3"}, api.ErrSize},
	{api.Span{Kind: 1, N: 1, Text: "a"}, api.ErrText},
	{api.Span{Kind: 3, N: 1, Text: "ab"}, api.ErrText},
	{api.Span{Kind: 1, Text: "\xFF"}, api.ErrText},
	{put("a\xFF"), api.ErrText},
	{put("\xED\xA0\x80"), api.ErrText},
}

// quote is a text to be read, no more than the beginning.
func quote(s string) string {
	return fmt.Sprintf("%d bytes %+q", len(s), s[:min(len(s), 30)])
}

// show is an operation to be read, with no more than the beginnings of its texts.
func show(l []api.Span) string {
	var s []string
	for _, x := range l[:min(len(l), 8)] {
		s = append(s, fmt.Sprintf("{%d %d %+q}", x.Kind, x.N, x.Text[:min(len(x.Text), 20)]))
	}
	return fmt.Sprintf("%d: %s", len(l), strings.Join(s, " "))
}

// withRest is l in a memory that goes on behind it, with more in it, and that memory as it is.
func withRest(l []api.Span) (given, as []api.Span) {
	const behind = 3
	given = make([]api.Span, len(l), len(l)+behind)
	copy(given, l)
	copy(given[len(l):cap(given)], row(keep(11), put("rest"), drop(13)))
	return given, slices.Clone(given[:cap(given)])
}

// model is what a history must be, worked out by the chapter's words: the text of each revision, and the operations between them, in their shortest forms.
type model struct {
	texts []string
	ops   [][]api.Span
}

func (m *model) last() int { return len(m.ops) }

func (m *model) size(r int) int { return len([]rune(m.texts[r])) }

// add makes an operation, of which the test knows that it may be, the next one.
func (m *model) add(l []api.Span) {
	m.texts = append(m.texts, does(l, m.texts[m.last()]))
	m.ops = append(m.ops, short(l))
}

// show is a model to be read, no more than the first operations and the last one.
func (m *model) show() string {
	s := []string{quote(m.texts[0])}
	for i, l := range m.ops {
		if i < 5 || i == m.last()-1 {
			s = append(s, strconv.Itoa(i+1)+") "+show(l))
		}
	}
	return strings.Join(s, " | ")
}

// does is what an operation gives of a text.
func does(l []api.Span, text string) string {
	s := []rune(text)
	var given []rune
	for _, x := range l {
		if x.Kind == 1 {
			given = append(given, s[:x.N]...)
		}
		s = s[x.N:]
		given = append(given, []rune(x.Text)...)
	}
	return string(given)
}

// short is an operation's shortest form.
func short(l []api.Span) []api.Span {
	var s []api.Span
	for _, x := range l {
		switch end := len(s) - 1; {
		case x.N == 0 && x.Text == "":
		case end >= 0 && s[end].Kind == x.Kind:
			s[end].N += x.N
			s[end].Text += x.Text
		default:
			s = append(s, x)
		}
	}
	return s
}

// made is a history of a text, and of operations of which the test knows that they may be; and what it must be.
func made(t *testing.T, base string, l ...[]api.Span) (*history.History, *model) {
	t.Helper()
	h, e := history.New(base)
	if h == nil || e != api.OK {
		t.Fatalf("New(%s) tells %d", quote(base), e)
	}
	m := &model{texts: []string{base}}
	for _, x := range l {
		add(t, h, m, x)
	}
	return h, m
}

// add makes an operation, of which the test knows that it may be, the next one of both.
func add(t *testing.T, h *history.History, m *model, l []api.Span) {
	t.Helper()
	given, as := withRest(l)
	if e := h.Append(given); e != api.OK {
		t.Fatalf("Append(%s) behind %s tells %d", show(l), m.show(), e)
	}
	if !slices.Equal(given[:cap(given)], as) {
		t.Fatalf("Append(%s) changed it to %s", show(l), show(given))
	}
	m.add(l)
}

// refuse holds an operation that may not be the next one to its error.
func refuse(t *testing.T, h *history.History, m *model, l []api.Span, code api.Errno) {
	t.Helper()
	given, as := withRest(l)
	if e := h.Append(given); e != code {
		t.Errorf("Append(%s) behind %s tells %d, want %d", show(l), m.show(), e, code)
	}
	if !slices.Equal(given[:cap(given)], as) || h.Len() != m.last() {
		t.Errorf("Append(%s), refused, changed it to %s, or Len to %d", show(l), show(given), h.Len())
	}
}

// beyond are revisions that a history with n operations does not have.
func beyond(n int) []int {
	return []int{-1, -2, -n - 1, math.MinInt, n + 1, n + 2, 2*n + 2, 1 << 32, math.MaxInt}
}

// ask holds all that a history tells against what it must be. It asks twice: what was told once must not come to be another thing.
func ask(t *testing.T, h *history.History, m *model) {
	t.Helper()
	for range 2 {
		if n := h.Len(); n != m.last() {
			t.Errorf("Len of %s is %d", m.show(), n)
		}
		askTexts(t, h, m)
		askRuns(t, h, m)
		askOver(t, h, m)
		askLog(t, h, m)
	}
}

// P17.3: the text of each revision, and of no other one.
func askTexts(t *testing.T, h *history.History, m *model) {
	t.Helper()
	for r, want := range m.texts {
		checkText(t, h, m, r, want, api.OK)
	}
	for _, r := range beyond(m.last()) {
		checkText(t, h, m, r, "", api.ErrRange)
	}
}

func checkText(t *testing.T, h *history.History, m *model, r int, want string, code api.Errno) {
	t.Helper()
	if s, e := h.At(r); s != want || e != code {
		t.Errorf("At %d of %s is %s, %d, want %s, %d", r, m.show(), quote(s), e, quote(want), code)
	}
}

// P17.3: what the operations between each two revisions come to, and ErrRange of all others.
func askRuns(t *testing.T, h *history.History, m *model) {
	t.Helper()
	outside := beyond(m.last())
	for r := range m.last() + 1 {
		for s := range r {
			checkRun(t, h, m, r, s, nil, api.ErrRange)
		}
		for s := r; s <= m.last(); s++ {
			checkPair(t, h, m, r, s)
		}
		for _, no := range outside {
			checkRun(t, h, m, r, no, nil, api.ErrRange)
			checkRun(t, h, m, no, r, nil, api.ErrRange)
		}
	}
	for _, r := range outside {
		for _, s := range outside {
			checkRun(t, h, m, r, s, nil, api.ErrRange)
		}
	}
}

// checkPair holds what the operations between two revisions come to against fuse.Of, and that takes the one text to the other one.
func checkPair(t *testing.T, h *history.History, m *model, r, s int) {
	t.Helper()
	want, e := fuse.Of(m.size(r), m.ops[r:s]...)
	if e != api.OK {
		t.Fatalf("fuse.Of tells %d", e)
	}
	checkRun(t, h, m, r, s, want, api.OK)
	if text, e := apply.To(want, m.texts[r]); text != m.texts[s] || e != api.OK {
		t.Errorf("Run %d, %d of %s gives %s, %d, want %s", r, s, m.show(), quote(text), e, quote(m.texts[s]))
	}
}

func checkRun(t *testing.T, h *history.History, m *model, r, s int, want []api.Span, code api.Errno) {
	t.Helper()
	if l, e := h.Run(r, s); !slices.Equal(l, want) || e != code {
		t.Errorf("Run %d, %d of %s is %s, %d, want %s, %d", r, s, m.show(), show(l), e, show(want), code)
	}
}

// operations are some that take n, in their shortest forms and not.
func operations(n int) [][]api.Span {
	half := n / 2
	return rows(
		row(keep(n)),
		row(put("Y"), keep(n)),
		row(keep(half), put("Y"), keep(n-half), put("\xC3\xA9Z")),
		row(drop(half), put("Y"), keep(0), put("Z"), keep(n-half)),
		row(keep(half), put("Y"), drop(n-half)),
		row(put(""), drop(n), put("\xE2\x82\xAC")),
	)
}

// P17.3: operations at each revision, behind all that is done since; those that may not be, or do not take as many; and no revision.
func askOver(t *testing.T, h *history.History, m *model) {
	t.Helper()
	for r := range m.last() + 1 {
		n := m.size(r)
		for _, a := range operations(n) {
			checkBehind(t, h, m, a, r)
			checkOver(t, h, m, append(a, keep(1)), r, nil, api.ErrLen)
			checkOver(t, h, m, append(a, drop(1)), r, nil, api.ErrLen)
			checkOver(t, h, m, append(a, api.Span{Kind: 5}), r, nil, api.ErrKind)
		}
		if n > 0 {
			checkOver(t, h, m, row(put("Y"), keep(n-1)), r, nil, api.ErrLen)
		}
	}
	for _, r := range beyond(m.last()) {
		for _, a := range rows(nil, row(keep(m.size(0))), row(keep(m.size(m.last()))), row(keep(-1))) {
			checkOver(t, h, m, a, r, nil, api.ErrRange)
		}
	}
}

// checkBehind holds an operation at a revision against what it comes to be step by step, by the words of chapter 13, and against through.Of.
func checkBehind(t *testing.T, h *history.History, m *model, a []api.Span, r int) {
	t.Helper()
	want := short(a)
	for _, l := range m.ops[r:] {
		next, e := over.Of(want, l)
		if e != api.OK {
			t.Fatalf("over.Of(%s, %s) tells %d", show(want), show(l), e)
		}
		want = next
	}
	if l, e := through.Of(a, m.ops[r:]...); !slices.Equal(l, want) || e != api.OK {
		t.Errorf("through.Of(%s) at %d of %s is %s, %d, want %s", show(a), r, m.show(), show(l), e, show(want))
	}
	checkOver(t, h, m, a, r, want, api.OK)
}

func checkOver(t *testing.T, h *history.History, m *model, a []api.Span, r int, want []api.Span, code api.Errno) {
	t.Helper()
	given, as := withRest(a)
	if l, e := h.Over(given, r); !slices.Equal(l, want) || e != code {
		t.Errorf("Over(%s, %d) of %s is %s, %d, want %s, %d", show(a), r, m.show(), show(l), e, show(want), code)
	}
	if !slices.Equal(given[:cap(given)], as) {
		t.Errorf("Over(%s, %d) changed it to %s", show(a), r, show(given))
	}
}

// P17.4: the log of the text, the revisions 0 to Len, and the operations, in their shortest forms; it may be, and has the same texts.
func askLog(t *testing.T, h *history.History, m *model) {
	t.Helper()
	c := h.Log()
	checkLog(t, c, m)
	for _, l := range c.Segs {
		if !normal.Is(l) {
			t.Errorf("the log of %s has %s, which is not in its shortest form", m.show(), show(l))
		}
	}
	if e := chain.May(c); e != api.OK {
		t.Errorf("the log of %s may not be: %d", m.show(), e)
	}
	for r, want := range m.texts {
		if s, e := chain.At(c, r); s != want || e != api.OK {
			t.Errorf("the log of %s has at %d %s, %d, want %s", m.show(), r, quote(s), e, quote(want))
		}
	}
}

// checkLog holds a log against what it must be.
func checkLog(t *testing.T, c api.Log, m *model) {
	t.Helper()
	var revs []int
	for r := range m.texts {
		revs = append(revs, r)
	}
	if c.Base != m.texts[0] || !slices.Equal(c.Revs, revs) || !slices.EqualFunc(c.Segs, m.ops, func(x, y []api.Span) bool { return slices.Equal(x, y) }) {
		t.Errorf("the log of %s is of %s, with %d revisions %d, and %d segments %v", m.show(), quote(c.Base), len(c.Revs), c.Revs[:min(len(c.Revs), 9)], len(c.Segs), c.Segs[:min(len(c.Segs), 9)])
	}
}

// check holds a history of a text and operations, and each beginning of it, to what it must be.
func check(t *testing.T, base string, l ...[]api.Span) {
	t.Helper()
	h, m := made(t, base)
	ask(t, h, m)
	for _, x := range l {
		add(t, h, m, x)
		ask(t, h, m)
	}
}

// P17.1 to P17.4: the chapter's example.
func TestExample(t *testing.T) {
	h, m := made(t, "a", reads("+b k1", "d1 k1")...)
	if l, e := h.Run(0, 2); !slices.Equal(l, row(keep(1))) || e != api.OK {
		t.Errorf("Run(0, 2) = %s, %d", show(l), e)
	}
	if !slices.Equal(m.texts, []string{"a", "ba", "a"}) {
		t.Errorf("the texts are %+q", m.texts)
	}
	ask(t, h, m)
	check(t, "a", m.ops...)
}

// some are operations on a text of three, among them one that takes and gives nothing, and two that put and drop at one place in either order.
func some() [][]api.Span {
	return reads("k2 +x k1", "k1 d1 k2", "+\xE2\x82\xAC k3 +b", "k5", "d5", "", "+xyz", "k1 +w d1 k1", "k1 d1 +v k1", "d2 +\xF0\x9F\x98\x80q k1")
}

// P17.1 to P17.4: what a history of some operations tells, written out.
func TestSomeOperations(t *testing.T) {
	base := "a\xC3\xA9c"
	check(t, base, some()...)
	h, m := made(t, base, some()...)
	if texts := []string{base, "a\xC3\xA9xc", "axc", "\xE2\x82\xACaxcb", "\xE2\x82\xACaxcb", "", "", "xyz", "xwz", "xvz", "\xF0\x9F\x98\x80qz"}; !slices.Equal(m.texts, texts) {
		t.Fatalf("the texts are %+q", m.texts)
	}
	for _, x := range []struct {
		r, s int
		want string
	}{
		{0, 1, "k2 +x k1"}, {0, 2, "k1 d1 +x k1"}, {0, 3, "+\xE2\x82\xAC k1 d1 +x k1 +b"}, {0, 5, "d3"}, {2, 5, "d3"}, {3, 4, "k5"}, {4, 6, "d5"}, {4, 7, "+xyz d5"},
		{5, 6, ""}, {5, 5, ""}, {5, 7, "+xyz"}, {6, 8, "+xwz"}, {7, 9, "k1 +v d1 k1"}, {8, 9, "k1 d1 +v k1"}, {0, 10, "+\xF0\x9F\x98\x80qz d3"},
	} {
		checkRun(t, h, m, x.r, x.s, read(x.want), api.OK)
	}
	for _, x := range []struct {
		a    string
		r    int
		want string
	}{
		{"k1 +p d1 k1", 7, "k2 +p k1"}, {"k1 +p k2", 9, "+p k3"}, {"k2 +p k1", 9, "k2 +p k1"}, {"d2 d1", 9, "k2 d1"}, {"k1 +p d2 +q", 10, "k1 +p d2 +q"},
		{"k1 +p k1 + +q k1 k0", 10, "k1 +p k1 +q k1"}, {"", 5, "k3"}, {"+p", 5, "k3 +p"}, {"+p", 6, "k3 +p"}, {"k4 d1", 4, "k3"},
	} {
		checkBehind(t, h, m, read(x.a), x.r)
		checkOver(t, h, m, read(x.a), x.r, read(x.want), api.OK)
	}
	h, m = made(t, base, some()[:2]...)
	for _, x := range [][]string{{"k1 +p k2", "k1 +p k2"}, {"k2 +p k1", "k2 +p k1"}, {"+p k3", "+p k3"}, {"+p d1 k1 d1 +q", "+p d1 k1 d1 +q"}, {"d1 +p d1 +q k1", "d1 +p k1 +q k1"}} {
		checkBehind(t, h, m, read(x[0]), 0)
		checkOver(t, h, m, read(x[0]), 0, read(x[1]), api.OK)
	}
}

// P17.1: of each text a history without operations.
func TestNoOperations(t *testing.T) {
	for _, base := range append(slices.Clone(points), "", "abc", "e\xCC\x81", strings.Join(points, ""), strings.Repeat("\xC3\xA9z", 50)) {
		h, m := made(t, base)
		ask(t, h, m)
		if c := h.Log(); c.Base != base || !slices.Equal(c.Revs, []int{0}) || len(c.Segs) != 0 {
			t.Errorf("the log of %s without operations is %v", quote(base), c)
		}
	}
}

// P17.1: a base that is no text is ErrText, however long, and then no history is told.
func TestBaseIsNoText(t *testing.T) {
	long := strings.Repeat("a", 5*most)
	for _, x := range noTexts {
		for _, base := range []string{x, "abc" + x, x + "\xC3\xA9", long[:most-1] + x, long[:most] + x, x + long[:most], long + x} {
			if h, e := history.New(base); h != nil || e != api.ErrText {
				t.Errorf("New(%s) = %v, %d", quote(base), h, e)
			}
		}
	}
}

// P17.1: a base of 2^20 code points may be, whatever they are; one of more is ErrBig, and then no history is told.
func TestLongBases(t *testing.T) {
	for _, p := range points {
		base := strings.Repeat(p, most)
		h, m := made(t, base, row(drop(most-1), keep(1)), row(put("x"), keep(1)))
		for r, want := range []string{base, p, "x" + p} {
			checkText(t, h, m, r, want, api.OK)
		}
		checkRun(t, h, m, 0, 0, row(keep(most)), api.OK)
		checkLog(t, h.Log(), m)
		for _, more := range []string{p, "a", p + p, base} {
			if h, e := history.New(base + more); h != nil || e != api.ErrBig {
				t.Errorf("New(%s) = %v, %d", quote(base+more), h, e)
			}
		}
	}
}

// P17.2: each error of op.May, whatever else is wrong, at each revision and at each place of the operation.
func TestAppendWhatMayNotBe(t *testing.T) {
	h, m := made(t, "ab")
	for _, next := range reads("+x k2", "d2 k1", "d1", "", "+\xC3\xA9y", "k2") {
		n := m.size(m.last())
		for _, x := range wrong {
			for _, fits := range operations(n) {
				for at := range len(fits) + 1 {
					refuse(t, h, m, slices.Insert(slices.Clone(fits), at, x.s), x.code)
				}
			}
			refuse(t, h, m, row(x.s), x.code)
			refuse(t, h, m, row(keep(n+1), x.s, api.Span{}), x.code)
			refuse(t, h, m, row(put(strings.Repeat("y", 100)), x.s, api.Span{Kind: 9}, keep(-1)), x.code)
		}
		for _, big := range rows(row(keep(most), keep(1)), row(drop(most), put("x"), drop(most)), row(drop(1), keep(most)), slices.Repeat(row(keep(most)), 5)) {
			refuse(t, h, m, big, api.ErrBig)
		}
		ask(t, h, m)
		add(t, h, m, next)
	}
	ask(t, h, m)
}

// P17.2: an operation that takes more or fewer code points than the last revision has is ErrLen; that it fits another one does not matter.
func TestAppendWhatDoesNotFit(t *testing.T) {
	h, m := made(t, "a\xC3\xA9c")
	for _, next := range some() {
		n := m.size(m.last())
		for takes := range 9 {
			for _, l := range operations(takes) {
				if takes != n {
					refuse(t, h, m, l, api.ErrLen)
				}
			}
		}
		refuse(t, h, m, row(put("x"), keep(n), drop(1)), api.ErrLen)
		refuse(t, h, m, row(keep(n), keep(0), keep(1)), api.ErrLen)
		refuse(t, h, m, row(keep(most)), api.ErrLen)
		if n > 0 {
			refuse(t, h, m, row(put("x"), keep(n-1)), api.ErrLen)
			refuse(t, h, m, row(drop(n-1), put("x")), api.ErrLen)
			refuse(t, h, m, nil, api.ErrLen)
		}
		ask(t, h, m)
		add(t, h, m, next)
	}
	ask(t, h, m)
}

// P17.2: an operation that gives 2^20 code points may be, one that gives more is ErrBig, at first and behind others.
func TestAppendWhatGivesTooMuch(t *testing.T) {
	for _, p := range points[:4] {
		full := strings.Repeat(p, most)
		h, m := made(t, "ab")
		for range 2 {
			refuse(t, h, m, row(keep(2), put(full[len(p):])), api.ErrBig)
			refuse(t, h, m, row(put(full), drop(1), keep(1)), api.ErrBig)
			refuse(t, h, m, row(put(full), drop(2), put("x")), api.ErrBig)
			refuse(t, h, m, row(put(p), drop(2), keep(0), put(full)), api.ErrBig)
			refuse(t, h, m, row(put(full), put(full), keep(2)), api.ErrBig)
			add(t, h, m, row(keep(1), put(full[2*len(p):]), keep(1)))
			refuse(t, h, m, row(put("x"), keep(most)), api.ErrBig)
			refuse(t, h, m, row(keep(most), put("x")), api.ErrBig)
			refuse(t, h, m, row(drop(1), put("xy"), keep(most-1)), api.ErrBig)
			add(t, h, m, row(drop(1), put("x"), keep(most-1)))
			add(t, h, m, row(put(full), drop(most)))
			add(t, h, m, row(keep(1), drop(most-2), keep(1)))
		}
		for r, want := range m.texts {
			checkText(t, h, m, r, want, api.OK)
		}
		checkPair(t, h, m, 0, 2)
		checkPair(t, h, m, 0, m.last())
		checkLog(t, h.Log(), m)
	}
}

// P17.2 and R3: of several things that are wrong with an operation the first one that the chapter names is told, in whatever order they stand in it.
func TestAppendTellsTheFirstError(t *testing.T) {
	long := strings.Repeat("y", most)
	h, m := made(t, "ab", read("k2 +c"), read("d1 k2"))
	codes := []api.Errno{api.ErrSize, api.ErrLen, api.ErrBig}
	for faults := 1; faults < 1<<len(codes); faults++ {
		l := row(keep(2), keep(0))
		code := api.OK
		for i, s := range row(drop(-1), keep(1), put(long)) {
			if faults&(1<<i) == 0 {
				continue
			}
			l = append(l, s)
			if code == api.OK {
				code = codes[i]
			}
		}
		refuse(t, h, m, l, code)
		slices.Reverse(l)
		refuse(t, h, m, l, code)
	}
	// Of what is taken too much op.May tells, ahead of what is given.
	refuse(t, h, m, row(keep(most), keep(2), put(long)), api.ErrBig)
	refuse(t, h, m, row(keep(most), keep(2), put(long), put("\xFF")), api.ErrText)
	refuse(t, h, m, row(drop(3), put(long+"y")), api.ErrLen)
	refuse(t, h, m, row(drop(2), put(long+"y")), api.ErrBig)
	ask(t, h, m)
}

// P17.2, P17.3 and P17.4: what is not in its shortest form may be, and all that is told behind it is told of its shortest form.
func TestAppendWhatIsNotShort(t *testing.T) {
	for _, x := range []struct {
		l          []api.Span
		want, text string
	}{
		{read("k1 k2"), "k3", "abc"},
		{read("k1 k0 k1 +x +y d1 d0"), "k2 +xy d1", "abxy"},
		{read("d1 d1 d1 +x + +yz"), "d3 +xyz", "xyz"},
		{append(read("k3"), empties...), "k3", "abc"},
		{append(slices.Clone(empties), read("d3")...), "d3", ""},
		{read("+x d1 +y k0 d1 +z d1"), "+x d1 +y d1 +z d1", "xyz"},
		{read("+x d0 +y d1 d1 k1"), "+xy d2 k1", "xyc"},
	} {
		h, m := made(t, "abc", x.l)
		checkText(t, h, m, 1, x.text, api.OK)
		checkRun(t, h, m, 0, 1, read(x.want), api.OK)
		if c := h.Log(); len(c.Segs) != 1 || !slices.Equal(c.Segs[0], read(x.want)) {
			t.Errorf("behind %s the log has %v", show(x.l), c.Segs)
		}
		ask(t, h, m)
	}
	for _, all := range rows(empties, row(keep(0)), row(put(""), put("")), row()) {
		check(t, "", all, nil, all, read("+a"), append(read("k1"), all...))
	}
}

// P17.2 and R2: with an error nothing changes, whatever was done so far, and what may be the next operation still may.
func TestAnErrorChangesNothing(t *testing.T) {
	h, m := made(t, "a\xC3\xA9c")
	for _, next := range some() {
		n := m.size(m.last())
		for _, x := range []struct {
			l    []api.Span
			code api.Errno
		}{
			{row(put("left"), keep(n), api.Span{}), api.ErrKind}, {row(put("left"), keep(n), keep(-1)), api.ErrSize}, {row(put("left"), keep(n), put("\xFF")), api.ErrText},
			{row(put("left"), keep(most), keep(1)), api.ErrBig}, {row(put("left"), keep(n+1)), api.ErrLen}, {row(keep(n), put(strings.Repeat("x", most+1))), api.ErrBig},
		} {
			refuse(t, h, m, x.l, x.code)
			ask(t, h, m)
		}
		add(t, h, m, next)
	}
	ask(t, h, m)
}

// P17.3: At, Over and Run with no operation, with one, and with many.
func TestManyOperations(t *testing.T) {
	r := rand.New(rand.NewSource(17))
	for _, many := range []int{0, 1, 2, 40} {
		base := strings.Join(points[:4], "")
		h, m := made(t, base)
		for range many {
			add(t, h, m, anyOf(r, m.size(m.last())))
		}
		ask(t, h, m)
	}
}

// P17.3 and R3: of several things that are wrong with what Over is asked that of the revision is told ahead of op.May's error, and that ahead of ErrLen.
func TestOverTellsTheFirstError(t *testing.T) {
	h, m := made(t, "ab", reads("k2 +c", "k3", "d3", "+wxyz")...)
	for _, r := range append(beyond(m.last()), 0, 1, 2, 3, 4) {
		outside := r < 0 || r > m.last()
		for _, x := range wrong {
			for _, a := range rows(row(x.s), row(keep(9), x.s), row(x.s, api.Span{}, keep(-1)), row(put("x"), x.s, keep(2))) {
				code := x.code
				if outside {
					code = api.ErrRange
				}
				checkOver(t, h, m, a, r, nil, code)
			}
		}
		for _, a := range rows(row(keep(most), drop(1)), row(keep(1), keep(most), put("x"))) {
			code := api.ErrBig
			if outside {
				code = api.ErrRange
			}
			checkOver(t, h, m, a, r, nil, code)
		}
		for n := range 7 {
			switch {
			case outside:
				checkOver(t, h, m, row(put("x"), keep(n)), r, nil, api.ErrRange)
			case n != m.size(r):
				checkOver(t, h, m, row(put("x"), keep(n)), r, nil, api.ErrLen)
			default:
				checkBehind(t, h, m, row(put("x"), keep(n)), r)
			}
		}
	}
}

// P17.3: what is put in one gap stands behind what the history puts there, and in which order that puts and drops there is seen.
func TestTies(t *testing.T) {
	for _, x := range []struct {
		base, a string
		ops     []string
		want    string
	}{
		{"a", "+y k1", []string{"+x k1"}, "k1 +y k1"},
		{"a", "+y k1", []string{"+x k1", "d1 k1"}, "+y k1"},
		{"a", "+y k1", []string{"+x k1", "d1 k1", "+x k1"}, "k1 +y k1"},
		{"abc", "k1 +y k2", []string{"k1 d1 k1", "k1 +x k1"}, "k2 +y k1"},
		{"abc", "k1 +y k2", []string{"k2 +x k1", "k1 d1 k2"}, "k1 +y k2"},
		{"abc", "k2 +y k1", []string{"k1 d1 k1", "k1 +x k1"}, "k2 +y k1"},
		{"abc", "k2 +y k1", []string{"k2 +x k1", "k1 d1 k2"}, "k2 +y k1"},
		{"abc", "d1 +p d1 +q d1", []string{"d3", "+xy"}, "k2 +pq"},
		{"", "+y", []string{"+a", "+b k1", "k2 +c"}, "k3 +y"},
	} {
		h, m := made(t, x.base, reads(x.ops...)...)
		checkBehind(t, h, m, read(x.a), 0)
		checkOver(t, h, m, read(x.a), 0, read(x.want), api.OK)
		ask(t, h, m)
	}
}

// P17.3: Over does not bound how much is given: that of an operation that gives more than 2^20 is told.
func TestOverOfWhatGivesMuch(t *testing.T) {
	long := strings.Repeat("\xC3\xA9", most)
	h, m := made(t, "ab", row(keep(1), put(long[4:]), keep(1)), row(keep(most)))
	for r, n := range []int{2, most, most} {
		for _, a := range rows(row(keep(n), put("xy")), row(put(long), keep(n)), row(put(long), drop(n), put(long))) {
			checkBehind(t, h, m, a, r)
		}
	}
}

// P17.3: what comes of two runs, one behind the other, is the run of both.
func TestRunsBehindEachOther(t *testing.T) {
	h, m := made(t, "a\xC3\xA9c", some()...)
	for a := range m.texts {
		for b := a; b <= m.last(); b++ {
			for c := b; c <= m.last(); c++ {
				one, e := h.Run(a, b)
				two, f := h.Run(b, c)
				both, g := compose.Of(one, two)
				if e != api.OK || f != api.OK || g != api.OK {
					t.Fatal(a, b, c, e, f, g)
				}
				checkRun(t, h, m, a, c, both, api.OK)
			}
		}
	}
}

// anyOf is an operation that takes n, in its shortest form or not, of the numbers that r tells, which are the same ones each time.
func anyOf(r *rand.Rand, n int) []api.Span {
	var l []api.Span
	for n > 0 || r.Intn(3) > 0 {
		many := min(r.Intn(5), n)
		switch r.Intn(5) {
		case 0, 1:
			l = append(l, keep(many))
			n -= many
		case 2:
			l = append(l, drop(many))
			n -= many
		case 3:
			l = append(l, put(points[r.Intn(len(points))]+string(rune('A'+r.Intn(26)))))
		default:
			l = append(l, empties[r.Intn(3)])
		}
	}
	return l
}

// P17.1 to P17.4: histories of operations of all kinds and lengths in many orders, with some refused in between.
func TestAnyHistories(t *testing.T) {
	r := rand.New(rand.NewSource(171))
	for range 150 {
		h, m := made(t, strings.Join(points[:r.Intn(len(points))], ""))
		for range r.Intn(9) {
			n := m.size(m.last())
			if r.Intn(3) == 0 {
				refuse(t, h, m, anyOf(r, n+1+r.Intn(3)), api.ErrLen)
				x := wrong[r.Intn(len(wrong))]
				refuse(t, h, m, append(anyOf(r, n), x.s), x.code)
			}
			add(t, h, m, anyOf(r, n))
		}
		ask(t, h, m)
		if t.Failed() {
			return
		}
	}
}

// shorts are short operations that take n, in their shortest forms and not.
func shorts(n int) [][]api.Span {
	puts := rows(nil, row(put("x")), row(put(""), put("\xC3\xA9"), put("z")))
	all := puts
	for range n {
		var longer [][]api.Span
		for _, l := range all {
			for _, s := range row(keep(1), drop(1)) {
				for _, p := range puts[:2] {
					longer = append(longer, slices.Concat(l, row(s), p))
				}
			}
		}
		all = longer
	}
	return all
}

// P17.1 to P17.4: all short histories.
func TestAllShortHistories(t *testing.T) {
	for _, base := range []string{"", "a", "\xE2\x82\xACb"} {
		for _, x := range shorts(len([]rune(base))) {
			h, m := made(t, base, x)
			ask(t, h, m)
			if n := m.size(1); n < 3 {
				for _, y := range shorts(n) {
					h, m := made(t, base, x, y)
					ask(t, h, m)
				}
			}
			if t.Failed() {
				return
			}
		}
	}
}

// R6: two histories do not change each other, though the same is done to both at first, and then in turn.
func TestTwoHistories(t *testing.T) {
	r := rand.New(rand.NewSource(172))
	h, m := made(t, "a\xC3\xA9c")
	g, n := made(t, "a\xC3\xA9c")
	for range 6 {
		l := anyOf(r, m.size(m.last()))
		add(t, h, m, l)
		add(t, g, n, l)
	}
	for range 6 {
		add(t, h, m, anyOf(r, m.size(m.last())))
		ask(t, g, n)
		ask(t, h, m)
		refuse(t, g, n, row(keep(n.size(n.last())), drop(1)), api.ErrLen)
		add(t, g, n, anyOf(r, n.size(n.last())))
		add(t, g, n, anyOf(r, n.size(n.last())))
		ask(t, h, m)
		ask(t, g, n)
	}
}

// R7: what one history tells may be done to another one, and then each is its own.
func TestWhatIsToldIsDoneToAnother(t *testing.T) {
	h, m := made(t, "a\xC3\xA9c", some()...)
	c := h.Log()
	g, n := made(t, c.Base, c.Segs...)
	whole, _ := h.Run(0, h.Len())
	k, o := made(t, c.Base, whole)
	for _, l := range c.Segs {
		overwrite(l)
	}
	overwrite(whole)
	add(t, g, n, read("k3 +g"))
	add(t, h, m, read("d3"))
	add(t, k, o, read("+k k3"))
	ask(t, h, m)
	ask(t, g, n)
	ask(t, k, o)
}

// R1: a History that New did not make is one of the empty text.
func TestHistoryOfItsOwn(t *testing.T) {
	var h history.History
	m := &model{texts: []string{""}}
	ask(t, &h, m)
	refuse(t, &h, m, row(keep(1)), api.ErrLen)
	refuse(t, &h, m, row(keep(-1)), api.ErrSize)
	add(t, &h, m, read("+ab"))
	add(t, &h, m, read("k1 d1"))
	ask(t, &h, m)
}

// inBytes is s, standing in bytes that may come to be others.
func inBytes(s string) (string, []byte) {
	b := []byte(s)
	return unsafe.String(unsafe.SliceData(b), len(b)), b
}

// overwrite writes into all of a row's memory.
func overwrite(l []api.Span) {
	l = l[:cap(l)]
	for i := range l {
		l[i] = api.Span{Kind: 1, N: 99, Text: "over"}
	}
}

// R7: a history does not see what becomes of the base and of the operations that were handed in, the bytes of their texts included.
func TestWhatWasHandedInIsNotKept(t *testing.T) {
	base, memory := inBytes("abc")
	h, e := history.New(base)
	if e != api.OK {
		t.Fatal(e)
	}
	copy(memory, "...")
	m := &model{texts: []string{"abc"}}
	ask(t, h, m)
	for _, x := range [][]string{{"k1", "pq", "k2"}, {"d2", "\xC3\xA9", "k3"}, {"k4", "r", ""}, {"", "s", "k5"}, {"d6", "t", ""}, {"", "u", "d1"}} {
		text, more := inBytes(x[1])
		l := slices.Concat(read(x[0]), row(put(text)), read(x[2]))
		given, _ := withRest(l)
		if e := h.Append(given); e != api.OK {
			t.Fatal(x, e)
		}
		m.add(slices.Concat(read(x[0]), row(put(x[1])), read(x[2])))
		overwrite(given)
		copy(more, "....")
		ask(t, h, m)
	}
}

// R7: what Over tells does not see what becomes of the operation that was handed in.
func TestWhatOverTellsIsTheCallersOwn(t *testing.T) {
	h, m := made(t, "abc", reads("k3 +x", "d1 k3", "k3")...)
	for r, n := range []int{3, 4, 3, 3} {
		text, memory := inBytes("pq")
		a, as := withRest(row(keep(2), put(text), keep(n-2)))
		want, _ := through.Of(row(keep(2), put("pq"), keep(n-2)), m.ops[r:]...)
		first, e := h.Over(a, r)
		second, f := h.Over(a, r)
		if e != api.OK || f != api.OK {
			t.Fatal(r, e, f)
		}
		overwrite(first)
		if !slices.Equal(a[:cap(a)], as) {
			t.Errorf("what Over tells at %d is what it was given", r)
		}
		overwrite(a)
		copy(memory, "..")
		if !slices.Equal(second, want) {
			t.Errorf("what Over told at %d is %s by now, want %s", r, show(second), show(want))
		}
		ask(t, h, m)
	}
}

// answers are all that a history tells: the texts, what operations come to be, the runs, and the log.
type answers struct {
	texts []string
	lists [][]api.Span
	log   api.Log
}

// answersOf asks for all of it.
func answersOf(t *testing.T, h *history.History, m *model) answers {
	t.Helper()
	a := answers{log: h.Log()}
	for r := range m.texts {
		s, e := h.At(r)
		a.texts = append(a.texts, s)
		for _, l := range operations(m.size(r)) {
			over, f := h.Over(l, r)
			e = max(e, f)
			a.lists = append(a.lists, over)
		}
		for s := range m.last() + 1 - r {
			run, f := h.Run(r, r+s)
			e = max(e, f)
			a.lists = append(a.lists, run)
		}
		if e != api.OK {
			t.Fatal(r, e)
		}
	}
	return a
}

// same tells whether two answers are.
func same(a, b answers) bool {
	rowsAre := func(x, y []api.Span) bool { return slices.Equal(x, y) }
	return slices.Equal(a.texts, b.texts) && slices.EqualFunc(a.lists, b.lists, rowsAre) &&
		a.log.Base == b.log.Base && slices.Equal(a.log.Revs, b.log.Revs) && slices.EqualFunc(a.log.Segs, b.log.Segs, rowsAre)
}

// spoil writes into all memory of answers.
func (a answers) spoil() {
	for _, l := range append(a.lists, a.log.Segs...) {
		overwrite(l)
	}
	revs, segs := a.log.Revs[:cap(a.log.Revs)], a.log.Segs[:cap(a.log.Segs)]
	for i := range revs {
		revs[i] = -99
	}
	for i := range segs {
		segs[i] = read("k98 +over")
	}
}

// R7: to write into an answer changes neither the history nor another answer, now or behind a later Append; and an Append changes no answer that was told.
func TestAnswersAreTheCallersOwn(t *testing.T) {
	h, m := made(t, "a\xC3\xA9c")
	for _, next := range some() {
		spoilt, kept, as, late := answersOf(t, h, m), answersOf(t, h, m), answersOf(t, h, m), answersOf(t, h, m)
		spoilt.spoil()
		ask(t, h, m)
		if !same(kept, as) || !same(late, as) {
			t.Errorf("of %s two answers are one memory", m.show())
		}
		add(t, h, m, next)
		ask(t, h, m)
		if !same(kept, as) {
			t.Errorf("Append(%s) changed what was told of %s", show(next), m.show())
		}
		late.spoil()
		ask(t, h, m)
	}
}

// R7: no two logs share the bytes of a text, with each other or with what was handed in.
func TestTextsAreTheCallersOwn(t *testing.T) {
	base, text := "abc", "pqr"
	h, _ := made(t, base, row(keep(3), put(text)))
	one, two := h.Log(), h.Log()
	for _, l := range [][]string{{base, one.Base, two.Base}, {text, one.Segs[0][1].Text, two.Segs[0][1].Text}} {
		for i, s := range l {
			for _, other := range l[:i] {
				if unsafe.StringData(s) == unsafe.StringData(other) {
					t.Errorf("%q is told in memory of another one's", s)
				}
			}
		}
	}
}

// P17.1 to P17.4: very many operations on a short text, as many as a log may have.
func TestVeryManyOperations(t *testing.T) {
	const many = 65535
	h, m := made(t, "ab")
	for i := range many {
		l := row(keep(1), put(points[i%len(points)]), keep(1))
		if i%2 == 1 {
			l = row(keep(1), drop(1), keep(1))
		}
		add(t, h, m, l)
	}
	if h.Len() != many {
		t.Fatal(h.Len())
	}
	for _, r := range append(beyond(many), 0, 1, 2, many/2, many-1, many) {
		if r < 0 || r > many {
			checkText(t, h, m, r, "", api.ErrRange)
			continue
		}
		checkText(t, h, m, r, m.texts[r], api.OK)
		checkPair(t, h, m, r, many)
		checkPair(t, h, m, 0, r)
		checkBehind(t, h, m, row(put("y"), keep(m.size(r)), put("z")), r)
	}
	c := h.Log()
	checkLog(t, c, m)
	if e := chain.May(c); e != api.OK {
		t.Errorf("the log may not be: %d", e)
	}
}

// P17.1 to P17.4: many operations on a text as long as may be: to be told, it is not gone through for each of them.
func TestVeryManyCodePoints(t *testing.T) {
	const many = 3000
	base := strings.Repeat("\xC3\xA9z", most/2)
	h, e := history.New(base)
	if e != api.OK {
		t.Fatal(e)
	}
	for i := range many {
		if e := h.Append(row(keep(300*i), put("x"), drop(1), keep(most-300*i-1))); e != api.OK {
			t.Fatal(i, e)
		}
	}
	want := []rune(base)
	for i := range many {
		want[300*i] = 'x'
	}
	for r := 0; r <= many; r += 150 {
		l, e := h.Run(r, many)
		text, f := h.At(r)
		told, g := apply.To(l, text)
		if e != api.OK || f != api.OK || g != api.OK || told != string(want) || strings.Count(text, "x") != r {
			t.Errorf("At %d is %s, and what is done behind it gives %s: %d, %d, %d", r, quote(text), quote(told), e, f, g)
		}
		behind := row(put("y"), keep(most), put("w"))
		if r == 0 {
			behind = row(keep(1), put("y"), keep(most-1), put("w"))
		}
		if a, e := h.Over(row(put("y"), keep(most), put("w")), r); !slices.Equal(a, behind) || e != api.OK {
			t.Errorf("Over at %d is %s, %d", r, show(a), e)
		}
	}
}
