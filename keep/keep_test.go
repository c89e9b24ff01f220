package keep_test

import (
	"math"
	"math/rand"
	"slices"
	"testing"

	"epitome/keep"
)

const (
	least    = math.MinInt
	greatest = math.MaxInt
)

// rows are rows of revisions that rise: of one, of two and of many, with gaps and without, and at the ends of what a number may be.
var rows = [][]int{
	{0}, {7}, {-3}, {least}, {greatest},
	{0, 1}, {0, 9}, {4, 5}, {-1, 1}, {least, greatest}, {least, least + 1}, {greatest - 1, greatest},
	{0, 1, 2, 3, 4, 5}, {3, 4, 5, 6}, {0, 1, 2}, {-2, -1, 0, 1, 2},
	{2, 5, 9}, {0, 3, 6, 9, 12, 15}, {1, 2, 4, 8, 16, 32, 64}, {5, 6, 9, 10, 11, 20}, {0, 1 << 28, 1 << 40},
	{least, -1, 0, 1, greatest}, {least, least + 2, -7, 7, greatest - 2, greatest},
}

// near are numbers of which all that may matter to a row is among: below it, each of it, beside and between each two of it, above it, and the ends of what a number may be.
func near(revs []int) []int {
	l := []int{least, least + 1, -1, 0, 1, greatest - 1, greatest}
	for i, r := range revs {
		l = append(l, r)
		if r > least {
			l = append(l, r-1)
		}
		if r < greatest {
			l = append(l, r+1)
		}
		if i > 0 {
			l = append(l, revs[i-1]/2+r/2)
		}
	}
	slices.Sort(l)
	return slices.Compact(l)
}

// place is what Floor must tell, by the chapter's words: the last one of all that are not above floor.
func place(revs []int, floor int) int {
	at := 0
	for i, r := range revs {
		if r <= floor {
			at = i
		}
	}
	return at
}

// kept is what Of must tell, by the chapter's words: what is kept is gathered in any order and more than once, and then made to rise.
func kept(revs, set []int, floor int) []int {
	at := place(revs, floor)
	l := []int{revs[len(revs)-1], revs[at]}
	for _, r := range set {
		if slices.Contains(revs[at+1:], r) {
			l = append(l, r)
		}
	}
	slices.Sort(l)
	return slices.Compact(l)
}

// withRest is l in a memory that goes on behind it, with more in it.
func withRest(l []int) []int {
	return append(slices.Clone(l), 1, 2, 3, 4, 5)[:len(l)]
}

// whole is a copy of l, and of what its memory has behind it.
func whole(l []int) []int { return slices.Clone(l[:cap(l)]) }

// checkFloor asks twice: the same call tells the same.
func checkFloor(t *testing.T, revs []int, floor, want int) {
	t.Helper()
	given := withRest(revs)
	as := whole(given)
	for range 2 {
		if at := keep.Floor(given, floor); at != want {
			t.Errorf("Floor(%d, %d) = %d, want %d", revs, floor, at, want)
		}
	}
	if !slices.Equal(given[:cap(given)], as) {
		t.Errorf("Floor(%d, %d) changed the row to %d", revs, floor, given[:cap(given)])
	}
}

// checkOf asks twice: the same call tells the same.
func checkOf(t *testing.T, revs, set []int, floor int, want []int) {
	t.Helper()
	givenRevs, givenSet := withRest(revs), withRest(set)
	asRevs, asSet := whole(givenRevs), whole(givenSet)
	for range 2 {
		if l := keep.Of(givenRevs, givenSet, floor); !slices.Equal(l, want) {
			t.Errorf("Of(%d, %d, %d) = %d, want %d", revs, set, floor, l, want)
		}
	}
	if !slices.Equal(givenRevs[:cap(givenRevs)], asRevs) || !slices.Equal(givenSet[:cap(givenSet)], asSet) {
		t.Errorf("Of(%d, %d, %d) changed the row to %d, or the set to %d", revs, set, floor, givenRevs[:cap(givenRevs)], givenSet[:cap(givenSet)])
	}
}

// P18.1 and P18.2: the chapter's example.
func TestTheExample(t *testing.T) {
	revs := []int{0, 1, 2, 3, 4, 5}
	checkFloor(t, revs, 1, 1)
	checkOf(t, revs, []int{3, 9, -1}, 1, []int{1, 3, 5})
}

// P18.1: places written out by hand.
func TestFloorsByHand(t *testing.T) {
	for _, x := range []struct {
		revs        []int
		floor, want int
	}{
		{[]int{2, 5, 9}, least, 0}, {[]int{2, 5, 9}, -1, 0}, {[]int{2, 5, 9}, 0, 0}, {[]int{2, 5, 9}, 1, 0},
		{[]int{2, 5, 9}, 2, 0}, {[]int{2, 5, 9}, 3, 0}, {[]int{2, 5, 9}, 4, 0},
		{[]int{2, 5, 9}, 5, 1}, {[]int{2, 5, 9}, 6, 1}, {[]int{2, 5, 9}, 8, 1},
		{[]int{2, 5, 9}, 9, 2}, {[]int{2, 5, 9}, 10, 2}, {[]int{2, 5, 9}, greatest, 2},
		{[]int{0, 1, 2, 3}, least, 0}, {[]int{0, 1, 2, 3}, -1, 0}, {[]int{0, 1, 2, 3}, 0, 0}, {[]int{0, 1, 2, 3}, 1, 1},
		{[]int{0, 1, 2, 3}, 2, 2}, {[]int{0, 1, 2, 3}, 3, 3}, {[]int{0, 1, 2, 3}, 4, 3}, {[]int{0, 1, 2, 3}, greatest, 3},
		{[]int{4, 7}, 3, 0}, {[]int{4, 7}, 4, 0}, {[]int{4, 7}, 6, 0}, {[]int{4, 7}, 7, 1}, {[]int{4, 7}, 8, 1},
		{[]int{7}, least, 0}, {[]int{7}, 6, 0}, {[]int{7}, 7, 0}, {[]int{7}, 8, 0}, {[]int{7}, greatest, 0},
		{[]int{least, 0, greatest}, least, 0}, {[]int{least, 0, greatest}, -1, 0}, {[]int{least, 0, greatest}, 0, 1},
		{[]int{least, 0, greatest}, greatest - 1, 1}, {[]int{least, 0, greatest}, greatest, 2},
	} {
		checkFloor(t, x.revs, x.floor, x.want)
	}
}

// P18.1: each row, with each floor that may matter.
func TestFloors(t *testing.T) {
	for _, revs := range rows {
		for _, floor := range near(revs) {
			checkFloor(t, revs, floor, place(revs, floor))
		}
	}
}

// P18.2: what is kept, written out by hand.
func TestKeptByHand(t *testing.T) {
	all, gaps := []int{0, 1, 2, 3, 4, 5}, []int{2, 5, 9, 14}
	for _, x := range []struct {
		revs, set []int
		floor     int
		want      []int
	}{
		// No set, one of none of them, one of all.
		{all, nil, 0, []int{0, 5}}, {all, []int{}, 0, []int{0, 5}}, {all, []int{}, 3, []int{3, 5}},
		{all, []int{6, 7, -1}, 2, []int{2, 5}}, {gaps, []int{0, 1, 3, 4, 6, 8, 10, 13, 15}, 2, []int{2, 14}},
		{all, all, 0, all}, {all, all, -1, all}, {all, all, 3, []int{3, 4, 5}}, {gaps, gaps, 7, []int{5, 9, 14}},
		// Any order, and numbers that are there twice.
		{all, []int{4, 2, 3}, 0, []int{0, 2, 3, 4, 5}}, {all, []int{3, 1, 3, 1, 3}, 0, []int{0, 1, 3, 5}}, {gaps, []int{9, 9, 5, 9}, 0, []int{2, 5, 9, 14}},
		// Numbers that are not among the revisions: below, between, above, and the ends of what a number may be.
		{gaps, []int{1, 5}, 2, []int{2, 5, 14}}, {gaps, []int{6, 5, 8}, 2, []int{2, 5, 14}}, {gaps, []int{15, 9}, 2, []int{2, 9, 14}},
		{gaps, []int{-5, -9, 9}, 2, []int{2, 9, 14}}, {gaps, []int{least, 9, greatest}, 2, []int{2, 9, 14}},
		// Numbers below the floor, the floor's own revision, the last one.
		{all, []int{0, 1, 4}, 2, []int{2, 4, 5}}, {gaps, []int{2, 5}, 9, []int{9, 14}}, {gaps, []int{2, 5}, 8, []int{5, 14}},
		{all, []int{2, 5}, 2, []int{2, 5}}, {all, []int{5, 2, 5, 2}, 2, []int{2, 5}}, {gaps, []int{9, 14}, 12, []int{9, 14}},
		// Floors below all, at the last one, and above it.
		{gaps, []int{9}, least, []int{2, 9, 14}}, {gaps, []int{9}, 1, []int{2, 9, 14}}, {gaps, nil, -1, []int{2, 14}},
		{gaps, []int{9}, 14, []int{14}}, {gaps, gaps, 14, []int{14}}, {gaps, gaps, 15, []int{14}}, {all, all, greatest, []int{5}}, {gaps, gaps, 13, []int{9, 14}},
		// Rows of one and of two.
		{[]int{7}, nil, 0, []int{7}}, {[]int{7}, []int{7}, 7, []int{7}}, {[]int{7}, []int{6, 7, 8}, 9, []int{7}}, {[]int{7}, []int{6, 8}, greatest, []int{7}},
		{[]int{3, 8}, nil, 0, []int{3, 8}}, {[]int{3, 8}, []int{5}, 3, []int{3, 8}}, {[]int{3, 8}, []int{3, 8}, 7, []int{3, 8}}, {[]int{3, 8}, []int{3}, 8, []int{8}},
		{[]int{least, 0, greatest}, []int{0}, least, []int{least, 0, greatest}}, {[]int{least, 0, greatest}, []int{least}, 1, []int{0, greatest}},
	} {
		checkOf(t, x.revs, x.set, x.floor, x.want)
	}
}

// sets are sets that may matter to a row: none, all of it and all beside it, in any order and more than once, each of it, and all but each of it.
func sets(revs []int) [][]int {
	beside := near(revs)
	back := slices.Clone(revs)
	slices.Reverse(back)
	others := slices.DeleteFunc(slices.Clone(beside), func(n int) bool { return slices.Contains(revs, n) })
	l := [][]int{nil, {}, revs, back, slices.Concat(back, revs), beside, others, slices.Concat(others, revs[:1], others)}
	for i, r := range revs {
		l = append(l, []int{r}, []int{r, r}, revs[:i], revs[i:], slices.Concat(revs[i+1:], revs[:i]), slices.Concat(others, revs[i:], others))
	}
	for _, n := range beside {
		l = append(l, []int{n}, []int{n, revs[0], n})
	}
	return l
}

// P18.2: each row, with each set and each floor that may matter.
func TestKept(t *testing.T) {
	for _, revs := range rows {
		for _, set := range sets(revs) {
			for _, floor := range near(revs) {
				checkOf(t, revs, set, floor, kept(revs, set, floor))
			}
		}
	}
}

// some are those of from, from + 1 and so on of which the bits are set.
func some(bits, from int) []int {
	var l []int
	for ; bits > 0; bits, from = bits/2, from+1 {
		if bits%2 == 1 {
			l = append(l, from)
		}
	}
	return l
}

// P18.1 and P18.2: all rows of numbers from 0 to 5, all sets of those from -1 to 6, all floors from -2 to 7.
func TestAllShortRows(t *testing.T) {
	for bits := 1; bits < 1<<6; bits++ {
		revs := some(bits, 0)
		for floor := -2; floor <= 7; floor++ {
			checkFloor(t, revs, floor, place(revs, floor))
			for set := range 1 << 8 {
				checkOf(t, revs, some(set, -1), floor, kept(revs, some(set, -1), floor))
			}
		}
		if t.Failed() {
			return
		}
	}
}

// anyRow is a row of up to so many revisions, the steps between them up to so great.
func anyRow(r *rand.Rand, many, step int) []int {
	l := []int{r.Intn(step) - r.Intn(step)}
	for n := r.Intn(many); len(l) <= n; {
		l = append(l, l[len(l)-1]+1+r.Intn(step))
	}
	return l
}

// anySet is a set of up to so many numbers, those of a row among them, in any order, and some more than once.
func anySet(r *rand.Rand, revs []int, many int) []int {
	var l []int
	for range r.Intn(many + 1) {
		switch r.Intn(5) {
		case 0:
			l = append(l, revs[0]-2+r.Intn(revs[len(revs)-1]-revs[0]+5))
		case 1:
			l = append(l, int(r.Uint64()))
		default:
			l = append(l, revs[r.Intn(len(revs))])
		}
	}
	return l
}

// anyFloor is a number about a row.
func anyFloor(r *rand.Rand, revs []int) int {
	return revs[r.Intn(len(revs))] + r.Intn(7) - 3
}

// P18.1 and P18.2: longer rows and sets, from a fixed seed; what is told rises, and so has each number once.
func TestLongerRows(t *testing.T) {
	r := rand.New(rand.NewSource(18))
	for i := range 5000 {
		revs := anyRow(r, 60, 1+i%7)
		set, floor := anySet(r, revs, 80), anyFloor(r, revs)
		checkFloor(t, revs, floor, place(revs, floor))
		checkOf(t, revs, set, floor, kept(revs, set, floor))
		l := keep.Of(revs, set, floor)
		for j := 1; j < len(l); j++ {
			if l[j] <= l[j-1] {
				t.Errorf("Of(%d, %d, %d) = %d does not rise", revs, set, floor, l)
			}
		}
		if t.Failed() {
			return
		}
	}
}

// P18.1 and P18.2: as many revisions as a row that is saved may have, and a set that has half of them, many times over.
func TestVeryManyRevisions(t *testing.T) {
	const many = 65536
	var revs, set, want []int
	for i := range many {
		revs = append(revs, 3*i)
		if i == 99 || i == many-1 || i > 99 && i%2 == 0 {
			want = append(want, 3*i)
		}
		if i%2 == 0 {
			set = append(set, 3*i, 3*i+1, 3*i, 3*i)
		}
	}
	rand.New(rand.NewSource(1)).Shuffle(len(set), func(i, j int) { set[i], set[j] = set[j], set[i] })
	for i, r := range revs {
		if keep.Floor(revs, r) != i || keep.Floor(revs, r+2) != i {
			t.Fatalf("Floor at and behind %d is not %d", r, i)
		}
	}
	if l := keep.Of(revs, set, 3*99+1); !slices.Equal(l, want) {
		t.Errorf("Of very many revisions tells %d of them, want %d", len(l), len(want))
	}
}

// checkPart holds what is kept by a set, and then by a part of it, to what that part keeps.
func checkPart(t *testing.T, revs, set, part []int, floor int) {
	t.Helper()
	l := keep.Of(revs, set, floor)
	if len(l) == 0 {
		t.Fatalf("Of(%d, %d, %d) keeps none", revs, set, floor)
	}
	checkOf(t, l, part, floor, keep.Of(revs, part, floor))
}

// P18.3: all rows of numbers from 0 to 4, all sets of those from -1 to 5, all parts of these (the set itself, and none of it, among them), all floors from -1 to 5.
func TestAPartOfAllShortSets(t *testing.T) {
	for bits := 1; bits < 1<<5; bits++ {
		for set := range 1 << 7 {
			for part := range set + 1 {
				for floor := -1; part&set == part && floor <= 5; floor++ {
					checkPart(t, some(bits, 0), some(set, -1), some(part, -1), floor)
				}
			}
		}
		if t.Failed() {
			return
		}
	}
}

// P18.3: each row with each floor that may matter, the parts of each set that end, and that begin, at each place of it.
func TestAPartOfEachSet(t *testing.T) {
	for _, revs := range rows {
		for _, set := range sets(revs) {
			for _, floor := range near(revs) {
				for i := range min(len(set), 9) + 1 {
					checkPart(t, revs, set, set[:i], floor)
					checkPart(t, revs, set, set[i:], floor)
				}
			}
		}
	}
}

// P18.3: longer rows, of which more and more is let go, one part behind the other one.
func TestPartsOfParts(t *testing.T) {
	r := rand.New(rand.NewSource(183))
	for range 2000 {
		revs := anyRow(r, 40, 4)
		set, floor := anySet(r, revs, 60), anyFloor(r, revs)
		l := keep.Of(revs, set, floor)
		for len(set) > 0 {
			r.Shuffle(len(set), func(i, j int) { set[i], set[j] = set[j], set[i] })
			set = set[:r.Intn(len(set))]
			checkOf(t, l, set, floor, kept(revs, set, floor))
			l = keep.Of(l, set, floor)
		}
		if t.Failed() {
			return
		}
	}
}

// fill writes a number into all of a list, and into what its memory has behind it.
func fill(l []int, n int) {
	l = l[:cap(l)]
	for i := range l {
		l[i] = n
	}
}

// R7: what is told is the caller's own, and what is handed in stays it: to write into the one changes nothing of the other.
func TestWhatIsToldIsTheCallersOwn(t *testing.T) {
	for _, revs := range rows {
		for _, set := range append(sets(revs), revs) {
			for _, floor := range near(revs) {
				want := kept(revs, set, floor)
				givenRevs, givenSet := withRest(revs), withRest(set)
				asRevs, asSet := whole(givenRevs), whole(givenSet)
				first, second := keep.Of(givenRevs, givenSet, floor), keep.Of(givenRevs, givenSet, floor)
				fill(first, 77)
				if !slices.Equal(givenRevs[:cap(givenRevs)], asRevs) || !slices.Equal(givenSet[:cap(givenSet)], asSet) {
					t.Errorf("what Of(%d, %d, %d) tells is what it was given", revs, set, floor)
				}
				fill(givenRevs, 78)
				fill(givenSet, 79)
				if !slices.Equal(second, want) {
					t.Errorf("what Of(%d, %d, %d) told is %d by now, want %d", revs, set, floor, second, want)
				}
			}
		}
	}
}

// R7: the row and the set may be one memory.
func TestARowThatIsTheSet(t *testing.T) {
	for _, revs := range rows {
		one := slices.Clone(revs)
		for _, floor := range near(revs) {
			if l := keep.Of(one, one, floor); !slices.Equal(l, revs[place(revs, floor):]) || !slices.Equal(one, revs) {
				t.Errorf("Of(%d, itself, %d) = %d", revs, floor, l)
			}
		}
	}
}

// R1, R6 and R7: rows that the chapter does not ask of, empty and not rising, make no call panic, change nothing, and tell the same twice.
func TestRowsThatAreNotAsked(t *testing.T) {
	for _, revs := range [][]int{nil, {}, {1, 1}, {5, 5, 5, 5}, {3, 2, 1}, {0, 9, 4, 4, 2, 7}, {greatest, least}, {least, greatest, least}} {
		for _, set := range [][]int{nil, {}, {4}, {9, 2, 2}, {least, greatest}, revs} {
			for _, floor := range near(revs) {
				checkFloor(t, revs, floor, keep.Floor(revs, floor))
				checkOf(t, revs, set, floor, keep.Of(revs, set, floor))
			}
		}
	}
}
