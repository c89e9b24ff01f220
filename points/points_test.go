package points_test

import (
	"math"
	"slices"
	"strings"
	"testing"

	"epitome/api"
	"epitome/points"
)

// isPoint is the chapter's own word for a code point.
func isPoint(r rune) bool {
	return 0 <= r && r <= 0x10FFFF && !(0xD800 <= r && r <= 0xDFFF)
}

// encode is the UTF-8 of a code point, bit by bit, so that the package is not held against the library it is made with.
func encode(r rune) string {
	tail := func(shift int) byte { return 0x80 | byte(r>>shift)&0x3F }
	switch {
	case r < 0x80:
		return string([]byte{byte(r)})
	case r < 0x800:
		return string([]byte{0xC0 | byte(r>>6), tail(0)})
	case r < 0x10000:
		return string([]byte{0xE0 | byte(r>>12), tail(6), tail(0)})
	}
	return string([]byte{0xF0 | byte(r>>18), tail(12), tail(6), tail(0)})
}

// wellFormed are the rows of the Unicode standard's table of well-formed UTF-8: the bounds of each byte.
var wellFormed = [][][2]byte{
	{{0x00, 0x7F}},
	{{0xC2, 0xDF}, {0x80, 0xBF}},
	{{0xE0, 0xE0}, {0xA0, 0xBF}, {0x80, 0xBF}},
	{{0xE1, 0xEC}, {0x80, 0xBF}, {0x80, 0xBF}},
	{{0xED, 0xED}, {0x80, 0x9F}, {0x80, 0xBF}},
	{{0xEE, 0xEF}, {0x80, 0xBF}, {0x80, 0xBF}},
	{{0xF0, 0xF0}, {0x90, 0xBF}, {0x80, 0xBF}, {0x80, 0xBF}},
	{{0xF1, 0xF3}, {0x80, 0xBF}, {0x80, 0xBF}, {0x80, 0xBF}},
	{{0xF4, 0xF4}, {0x80, 0x8F}, {0x80, 0xBF}, {0x80, 0xBF}},
}

// fits is how many bytes of s the row takes, 0 if it takes none.
func fits(s string, row [][2]byte) int {
	if len(s) < len(row) {
		return 0
	}
	for i, bounds := range row {
		if s[i] < bounds[0] || s[i] > bounds[1] {
			return 0
		}
	}
	return len(row)
}

// countByTable is what Count must tell, by the standard's table.
func countByTable(s string) int {
	n := 0
	for len(s) > 0 {
		used := 0
		for _, row := range wellFormed {
			used = max(used, fits(s, row))
		}
		if used == 0 {
			return -1
		}
		s = s[used:]
		n++
	}
	return n
}

func checkCount(t *testing.T, s string, want int) {
	t.Helper()
	if got := points.Count(s); got != want {
		t.Errorf("Count(%q) = %d, want %d", s, got, want)
	}
	if got := points.Valid(s); got != (want >= 0) {
		t.Errorf("Valid(%q) = %v, want %v", s, got, want >= 0)
	}
}

// edges are the first and the last code point of each length, those around the numbers that are none, and U+FFFD, that stands for a fault elsewhere.
var edges = []rune{0, 0x7F, 0x80, 0x7FF, 0x800, 0xD7FF, 0xE000, 0xFEFF, 0xFFFD, 0xFFFE, 0xFFFF, 0x10000, 0x10FFFF}

// noTexts are strings that are no UTF-8 by themselves.
var noTexts = []string{
	"\x80", "\xBF", // a byte that goes on, with nothing ahead
	"\xC2", "\xE0\xA0", "\xE2\x82", "\xEF\xBF", "\xF0\x90\x80", "\xF4\x8F\xBF", // what ends too early
	"\xC0\x80", "\xC1\xBF", "\xE0\x80\x80", "\xE0\x9F\xBF", "\xF0\x80\x80\x80", "\xF0\x8F\xBF\xBF", // longer than it may be
	"\xF0\x8F\xBF\xBD",                                             // U+FFFD, longer than it may be
	"\xED\xA0\x80", "\xED\xAF\xBF", "\xED\xB0\x80", "\xED\xBF\xBF", // D800, DBFF, DC00, DFFF
	"\xED\xA0\xBD\xED\xB8\x80",                                 // one code point as a pair of these
	"\xF4\x90\x80\x80", "\xF5\x80\x80\x80", "\xF7\xBF\xBF\xBF", // above 10FFFF
	"\xF8\x88\x80\x80\x80", "\xFC\x84\x80\x80\x80\x80", "\xFE", "\xFF", // bytes that UTF-8 does not have
	"\xC2a", "\xE2\x82a", "\xF0\x90\x80a", // what breaks off
}

// texts are ordinary ones and those of the edges.
func texts() []string {
	l := []string{"", "a", "abc", "a\u00E9b", "\u20AC", "\U0001F600!", "e\u0301", "\r\n", "\u65E5\u672C\u8A9E", "\uFFFD\uFFFD"}
	all := ""
	for _, r := range edges {
		l = append(l, encode(r))
		all += encode(r)
	}
	return append(l, all)
}

// P1.1: texts, the empty one and the edges of each length among them.
func TestTextsAreCounted(t *testing.T) {
	for s, want := range map[string]int{"": 0, "abc": 3, "a\u00E9b": 3, "\u65E5\u672C\u8A9E": 3, "e\u0301": 2, "\r\n": 2, "\x00": 1, "\U0001F600!": 2, "\uFFFD": 1, "\uFFFD\uFFFDa": 3} {
		checkCount(t, s, want)
	}
	for _, r := range edges {
		checkCount(t, encode(r), 1)
		checkCount(t, encode(r)+encode(r), 2)
		checkCount(t, "a"+encode(r)+"b", 3)
	}
	checkCount(t, strings.Repeat("\U0010FFFF", api.MaxLen), api.MaxLen)
}

// P1.1: what is no UTF-8, wherever it stands.
func TestNoTextsAreTold(t *testing.T) {
	for _, s := range noTexts {
		for _, around := range []string{"", "a", "\u00E9", "\uFFFD", "\U0010FFFF"} {
			checkCount(t, around+s, -1)
			checkCount(t, s+around, -1)
			checkCount(t, around+s+around, -1)
		}
	}
}

// P1.1: every number that there may be, the ones that are no code points as the bytes they would have.
func TestEveryNumberIsCounted(t *testing.T) {
	for r := rune(0); r < 1<<21; r++ {
		want := 1
		if !isPoint(r) {
			want = -1
		}
		checkCount(t, encode(r), want)
		if t.Failed() {
			return
		}
	}
}

// P1.1: all strings of up to three bytes.
func TestShortStringsAreCounted(t *testing.T) {
	checkCount(t, "", 0)
	for n := 0; n < 1<<24; n++ {
		b := []byte{byte(n), byte(n >> 8), byte(n >> 16)}
		for size := 3; size > 0 && n < 1<<(8*size); size-- {
			s := string(b[:size])
			if got, want := points.Count(s), countByTable(s); got != want || points.Valid(s) != (want >= 0) {
				t.Fatalf("Count(%q) = %d, want %d; Valid %v", s, got, want, points.Valid(s))
			}
		}
	}
}

// P1.1: all strings of four bytes that stand at a bound of the standard's table.
func TestBoundsOfTheTableAreCounted(t *testing.T) {
	const bounds = "\x00a\x7F\x80\x8F\x90\x9F\xA0\xBD\xBF\xC0\xC1\xC2\xDF\xE0\xE1\xEC\xED\xEE\xEF\xF0\xF1\xF3\xF4\xF5\xFF"
	for n := range len(bounds) * len(bounds) * len(bounds) * len(bounds) {
		var b [4]byte
		for i := range b {
			b[i] = bounds[n%len(bounds)]
			n /= len(bounds)
		}
		s := string(b[:])
		if got, want := points.Count(s), countByTable(s); got != want || points.Valid(s) != (want >= 0) {
			t.Fatalf("Count(%q) = %d, want %d; Valid %v", s, got, want, points.Valid(s))
		}
	}
}

func checkCut(t *testing.T, s string, from, to int, want string, wantCode api.Errno) {
	t.Helper()
	if got, code := points.Cut(s, from, to); got != want || code != wantCode {
		t.Errorf("Cut(%q, %d, %d) = %q, %d, want %q, %d", s, from, to, got, code, want, wantCode)
	}
}

// P1.2: the chapter's example, and places that there are not.
func TestCutTakesAPart(t *testing.T) {
	const s = "a\u00E9\u20AC\U0001F600b"
	checkCut(t, "a\u00E9b", 1, 2, "\u00E9", api.OK)
	checkCut(t, s, 0, 5, s, api.OK)
	checkCut(t, s, 0, 0, "", api.OK)
	checkCut(t, s, 5, 5, "", api.OK)
	checkCut(t, s, 2, 4, "\u20AC\U0001F600", api.OK)
	checkCut(t, s, 4, 5, "b", api.OK)
	checkCut(t, s, 0, 6, "", api.ErrRange)
	checkCut(t, s, 5, 6, "", api.ErrRange)
	checkCut(t, s, 6, 6, "", api.ErrRange)
	checkCut(t, s, 6, 5, "", api.ErrRange)
	checkCut(t, s, 3, 2, "", api.ErrRange)
	checkCut(t, s, -1, 0, "", api.ErrRange)
	checkCut(t, s, -1, -1, "", api.ErrRange)
	checkCut(t, s, 0, -1, "", api.ErrRange)
	checkCut(t, s, 0, len(s), "", api.ErrRange)
	checkCut(t, s, 0, math.MaxInt, "", api.ErrRange)
	checkCut(t, s, math.MinInt, math.MaxInt, "", api.ErrRange)
	checkCut(t, s, math.MaxInt, math.MinInt, "", api.ErrRange)
	checkCut(t, "", 0, 0, "", api.OK)
	checkCut(t, "", 0, 1, "", api.ErrRange)
	checkCut(t, "", 1, 1, "", api.ErrRange)
	checkCut(t, "", -1, 0, "", api.ErrRange)
}

// P1.2: all places in and around each text; what is wanted is put together from the numbers.
func TestCutAtAllPlaces(t *testing.T) {
	for _, s := range texts() {
		l := []rune(s)
		for from := -2; from <= len(l)+2; from++ {
			for to := -2; to <= len(l)+2; to++ {
				if from < 0 || from > to || to > len(l) {
					checkCut(t, s, from, to, "", api.ErrRange)
					continue
				}
				want := ""
				for _, r := range l[from:to] {
					want += encode(r)
				}
				checkCut(t, s, from, to, want, api.OK)
			}
		}
	}
}

// P1.2: of no text ErrText is told, also where the places are wrong too, and where the fault stands outside them.
func TestCutOfNoText(t *testing.T) {
	for _, s := range noTexts {
		for _, place := range [][2]int{{0, 0}, {0, 1}, {1, 1}, {0, 2}, {-1, 0}, {2, 1}, {0, 100}, {math.MinInt, math.MaxInt}} {
			checkCut(t, s, place[0], place[1], "", api.ErrText)
			checkCut(t, "ab"+s, place[0], place[1], "", api.ErrText)
			checkCut(t, s+"ab", place[0], place[1], "", api.ErrText)
		}
	}
}

// P1.3: every number from below 0 to above 10FFFF, and the ends of what a rune holds.
func TestOfEachNumber(t *testing.T) {
	check := func(r rune) {
		want := ""
		if isPoint(r) {
			want = encode(r)
		}
		if got := points.Of(r); got != want {
			t.Fatalf("Of(%#x) = %q, want %q", r, got, want)
		}
	}
	for r := rune(-0x1000); r < 0x120000; r++ {
		check(r)
	}
	for _, r := range []rune{math.MinInt32, math.MinInt32 + 'a', -0x10FFFF, 0x7FFFFFFF, 0x200061, 0x40000061} {
		check(r)
	}
}

// P1.3: the order stays, what is no code point is left out, and nothing stands for it.
func TestOfManyNumbers(t *testing.T) {
	for _, x := range []struct {
		l    []rune
		want string
	}{
		{nil, ""},
		{[]rune{}, ""},
		{[]rune{0xD800}, ""},
		{[]rune{-1, 0xDFFF, 0x110000, math.MinInt32}, ""},
		{[]rune{'c', 'b', 'a', 'a'}, "cbaa"},
		{[]rune{'a', 0xE9, 0xD800, -1, 0x110000, 0x1F600, 0}, "a\xC3\xA9\xF0\x9F\x98\x80\x00"},
		{[]rune{0xDFFF, 0xE000, 0xD7FF, 0xD800}, "\xEE\x80\x80\xED\x9F\xBF"},
		{[]rune{0xD83D, 0xDE00, '!'}, "!"},
		{[]rune{0xFFFD, 0x10FFFF, 0xFFFD}, "\xEF\xBF\xBD\xF4\x8F\xBF\xBF\xEF\xBF\xBD"},
	} {
		given := slices.Clone(x.l)
		if got := points.Of(x.l...); got != x.want {
			t.Errorf("Of(%x) = %q, want %q", given, got, x.want)
		}
		if !slices.Equal(given, x.l) {
			t.Errorf("Of(%x) changed what it was given to %x", given, x.l)
		}
	}
	if got := points.Of(); got != "" {
		t.Errorf("Of() = %q", got)
	}
}

// P1.3 and P1.1: what Of tells is a text of as many code points.
func TestOfIsAText(t *testing.T) {
	checkCount(t, points.Of(edges...), len(edges))
	checkCount(t, points.Of(append(slices.Clone(edges), -1, 0xD800, 0xDFFF, 0x110000)...), len(edges))
}

// P1.4: pieces, cut at one place or at two, are the whole again.
func TestPiecesAreTheWhole(t *testing.T) {
	for _, s := range texts() {
		n := points.Count(s)
		for i := range n + 1 {
			for j := i; j <= n; j++ {
				checkPieces(t, s, 0, i, j, n)
			}
		}
	}
}

func checkPieces(t *testing.T, s string, places ...int) {
	t.Helper()
	whole := ""
	for k := range len(places) - 1 {
		piece, code := points.Cut(s, places[k], places[k+1])
		if code != api.OK || points.Count(piece) != places[k+1]-places[k] {
			t.Errorf("Cut(%q, %d, %d) = %q, %d", s, places[k], places[k+1], piece, code)
		}
		whole += piece
	}
	if whole != s {
		t.Errorf("%q cut at %v is %q", s, places, whole)
	}
}
