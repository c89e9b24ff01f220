package span_test

import (
	"math"
	"strings"
	"testing"

	"epitome/api"
	"epitome/span"
)

// most is the greatest number that a span may have: 2^20, written out anew.
const most = 1048576

// counted are texts, each with how many code points it has; of the code points of each size in bytes the first and the last one are among them.
var counted = []struct {
	text string
	n    int
}{
	{"", 0},
	{"\xC3\xA9a", 2}, {"a", 1}, {"abc", 3}, {" ", 1}, {"\n", 1}, {"aa", 2},
	{"\x00", 1}, {"\x7F", 1}, {"\x00\x7F\x00", 3},
	{"\xC2\x80", 1}, {"\xDF\xBF", 1}, {"\xC2\x80\xDF\xBF", 2},
	{"\xE0\xA0\x80", 1}, {"\xED\x9F\xBF", 1}, {"\xEE\x80\x80", 1}, {"\xEF\xBF\xBF", 1}, {"\xEF\xBF\xBD", 1},
	{"\xF0\x90\x80\x80", 1}, {"\xF0\x9F\x98\x80", 1}, {"\xF4\x8F\xBF\xBF", 1},
	{"a\xC3\xA9\xE2\x82\xAC\xF0\x9F\x98\x80", 4}, {"\xF0\x9F\x98\x80\xE2\x82\xAC\xC3\xA9a", 4},
	{"e\xCC\x81", 2}, {"\xEF\xBB\xBFa", 2}, {"\xEF\xBF\xBD\xEF\xBF\xBD\xEF\xBF\xBD", 3},
}

// noTexts are strings that are not the UTF-8 of code points, the fault ahead, between and behind.
var noTexts = []string{
	"\xFF", "\xFE", "\x80", "\xBF", "\xC3", "\xE2\x82", "\xF0\x9F\x98",
	"a\xFF", "\xFFa", "a\xFFb", "\xC3\xA9\xC3", "\xC3a", "\xEF\xBF\xBD\xFF", "\xEF\xBF",
	"\xC0\x80", "\xC1\xBF", "\xE0\x9F\xBF", "\xF0\x8F\xBF\xBF",
	"\xED\xA0\x80", "\xED\xBF\xBF", "\xF4\x90\x80\x80", "\xF8\x88\x80\x80\x80",
}

// sizes are numbers that a span that keeps or drops may have, and wrongSizes are some that it may not; cut to fewer bits, or without their sign, some of these could be taken for others.
var (
	sizes      = []int{0, 1, 2, 5, 255, 256, 512, 65536, most - 1, most}
	wrongSizes = []int{
		-1, -2, -5, -most, -most - 1, math.MinInt32, math.MinInt + 1, math.MinInt,
		most + 1, most + 2, 2 * most, 1<<28 - 1, math.MaxInt32, 1 << 32, 1<<32 + 1, math.MaxInt - 1, math.MaxInt,
	}
)

// noKinds are those that are none of the three; cut to fewer bits, or without their sign, some of these could be taken for one.
var noKinds = []int{
	0, -1, -2, -3, 4, 5, 6, 7, 8, 127, 128, 255, 256, 257, 258, 259, -255, -254, -253, 1 << 16, 1<<16 + 1, most,
	1 << 32, 1<<32 + 1, 1<<32 + 2, 1<<32 + 3, math.MaxInt32, math.MinInt32, math.MaxInt - 1, math.MaxInt, math.MinInt, math.MinInt + 1, math.MinInt + 2, math.MinInt + 3,
}

func allTexts() []string {
	var l []string
	for _, x := range counted {
		l = append(l, x.text)
	}
	return append(l, noTexts...)
}

func allSizes() []int {
	return append(append([]int{}, sizes...), wrongSizes...)
}

// check holds a span against what is wanted of it, and asks twice: what was told once must not come to be another thing.
func check(t *testing.T, s api.Span, code api.Errno, in, out int) {
	t.Helper()
	for range 2 {
		if got := span.May(s); got != code {
			t.Errorf("May(%+v) = %d, want %d", s, got, code)
		}
		if got := span.In(s); got != in {
			t.Errorf("In(%+v) = %d, want %d", s, got, in)
		}
		if got := span.Out(s); got != out {
			t.Errorf("Out(%+v) = %d, want %d", s, got, out)
		}
	}
}

// The kinds have the numbers that the document gives them.
func TestKindsAreThoseOfTheDocument(t *testing.T) {
	check(t, api.Span{Kind: 1, N: 7}, 0, 7, 7)
	check(t, api.Span{Kind: 2, Text: "abc"}, 0, 0, 3)
	check(t, api.Span{Kind: 3, N: 7}, 0, 7, 0)
}

// P3.1 and P3.2: the chapter's example, and ordinary spans of each kind.
func TestOrdinarySpans(t *testing.T) {
	check(t, api.Span{Kind: api.SpPut, Text: "\xC3\xA9a"}, api.OK, 0, 2)
	check(t, api.Span{Kind: api.SpPut, Text: "x"}, api.OK, 0, 1)
	check(t, api.Span{Kind: api.SpKeep, N: 2}, api.OK, 2, 2)
	check(t, api.Span{Kind: api.SpDrop, N: 1}, api.OK, 1, 0)
}

// P3.1 and P3.2: empty spans may be.
func TestEmptySpans(t *testing.T) {
	check(t, api.Span{Kind: api.SpKeep}, api.OK, 0, 0)
	check(t, api.Span{Kind: api.SpPut}, api.OK, 0, 0)
	check(t, api.Span{Kind: api.SpDrop}, api.OK, 0, 0)
}

// P3.1 and P3.2: the numbers of an SpKeep and an SpDrop that may be, up to 2^20 itself; with a text ErrText is told, whether that is one or not.
func TestSizesThatMayBe(t *testing.T) {
	for _, n := range sizes {
		for _, text := range allTexts() {
			code := api.ErrText
			if text == "" {
				code = api.OK
			}
			check(t, api.Span{Kind: api.SpKeep, N: n, Text: text}, code, n, n)
			check(t, api.Span{Kind: api.SpDrop, N: n, Text: text}, code, n, 0)
		}
	}
}

// P3.1 and P3.2: the numbers of an SpKeep and an SpDrop that may not be: ErrSize, with a text too; In and Out tell them all the same.
func TestSizesThatMayNotBe(t *testing.T) {
	for _, n := range wrongSizes {
		for _, text := range allTexts() {
			check(t, api.Span{Kind: api.SpKeep, N: n, Text: text}, api.ErrSize, n, n)
			check(t, api.Span{Kind: api.SpDrop, N: n, Text: text}, api.ErrSize, n, 0)
		}
	}
}

// P3.1 and P3.2: what an SpPut may put, the empty text among it; it takes nothing, and gives its code points, not its bytes.
func TestTextsThatMayBePut(t *testing.T) {
	for _, x := range counted {
		check(t, api.Span{Kind: api.SpPut, Text: x.text}, api.OK, 0, x.n)
	}
}

// P3.1 and P3.2: what no SpPut may put: it gives nothing.
func TestTextsThatMayNotBePut(t *testing.T) {
	for _, text := range noTexts {
		check(t, api.Span{Kind: api.SpPut, Text: text}, api.ErrText, 0, 0)
	}
}

// P3.1 and P3.2: an SpPut with a number: ErrSize, whatever its text is; the number is neither taken nor given.
func TestPutsWithANumber(t *testing.T) {
	for _, n := range allSizes() {
		if n == 0 {
			continue
		}
		for _, x := range counted {
			check(t, api.Span{Kind: api.SpPut, N: n, Text: x.text}, api.ErrSize, 0, x.n)
		}
		for _, text := range noTexts {
			check(t, api.Span{Kind: api.SpPut, N: n, Text: text}, api.ErrSize, 0, 0)
		}
	}
}

// P3.1 and P3.2: kinds that there are not: ErrKind, whatever else is wrong, and nothing is taken or given.
func TestKindsThatThereAreNot(t *testing.T) {
	for _, kind := range noKinds {
		for _, n := range allSizes() {
			for _, text := range allTexts() {
				check(t, api.Span{Kind: kind, N: n, Text: text}, api.ErrKind, 0, 0)
			}
		}
	}
}

// P3.1 and P3.2: of the kinds around the three no other one is there.
func TestKindsAround(t *testing.T) {
	for kind := -1000; kind <= 1000; kind++ {
		if kind < api.SpKeep || kind > api.SpDrop {
			check(t, api.Span{Kind: kind}, api.ErrKind, 0, 0)
			check(t, api.Span{Kind: kind, N: 1, Text: "a"}, api.ErrKind, 0, 0)
		}
	}
}

// P3.1 and P3.2: how much is put has no bound here: a text of more than 2^20 code points may be, and a fault at its end is found.
func TestLongTexts(t *testing.T) {
	for _, n := range []int{most - 1, most, most + 1, 3 * most} {
		long := strings.Repeat("\xC3\xA9", n)
		for _, x := range []struct {
			text string
			code api.Errno
			out  int
		}{{long, api.OK, n}, {long + "\xC3", api.ErrText, 0}} {
			s := api.Span{Kind: api.SpPut, Text: x.text}
			if code, in, out := span.May(s), span.In(s), span.Out(s); code != x.code || in != 0 || out != x.out {
				t.Errorf("a text of %d bytes: May, In, Out = %d, %d, %d, want %d, 0, %d", len(x.text), code, in, out, x.code, x.out)
			}
		}
	}
}
