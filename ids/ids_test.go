package ids_test

import (
	"math"
	"math/rand/v2"
	"slices"
	"testing"

	"copyhold/ids"
)

const (
	lowest  = math.MinInt
	highest = math.MaxInt
)

func want(t *testing.T, what string, got []int, row ...int) {
	t.Helper()
	if !slices.Equal(got, row) {
		t.Errorf("%s: %v, not %v", what, got, row)
	}
}

func wantRun(t *testing.T, l []int, n, first int, found bool) {
	t.Helper()
	if got, ok := ids.Run(l, n); got != first || ok != found {
		t.Errorf("Run(%v, %d): %d, %v; not %d, %v", l, n, got, ok, first, found)
	}
}

// upTo gives the numbers from a up to b.
func upTo(a, b int) []int {
	var l []int
	for n := a; n <= b; n++ {
		l = append(l, n)
	}
	return l
}

// P7.1: Is tells whether each is above the one ahead of it.
func TestIs(t *testing.T) {
	for _, c := range []struct {
		l    []int
		want bool
	}{
		{nil, true},
		{[]int{}, true},
		{[]int{0}, true},
		{[]int{-7}, true},
		{[]int{2, 3}, true},
		{[]int{-5, 0, 2, 4, 5, 400}, true},
		{[]int{lowest, highest}, true},
		{[]int{lowest, lowest + 1, highest - 1, highest}, true},
		{[]int{3, 3}, false},
		{[]int{3, 2}, false},
		{[]int{1, 1, 2}, false},
		{[]int{1, 2, 2}, false},
		{[]int{2, 1, 3}, false},
		{[]int{1, 3, 2}, false},
		{[]int{1, 2, 3, 4, 1}, false},
		{[]int{1, 5, 2, 6}, false}, // each above the one but one ahead of it, and yet
		{[]int{highest, lowest}, false},
		{[]int{highest, highest}, false},
		{[]int{lowest, lowest}, false},
	} {
		if got := ids.Is(c.l); got != c.want {
			t.Errorf("Is(%v): %v", c.l, got)
		}
	}
}

// P7.1: With puts a number in its place, once.
func TestWith(t *testing.T) {
	l := []int{2, 4, 5, 9}
	want(t, "ahead of all", ids.With(l, 1), 1, 2, 4, 5, 9)
	want(t, "in the midst", ids.With(l, 3), 2, 3, 4, 5, 9)
	want(t, "in a wide gap", ids.With(l, 7), 2, 4, 5, 7, 9)
	want(t, "behind all", ids.With(l, 10), 2, 4, 5, 9, 10)
	want(t, "the first, there", ids.With(l, 2), 2, 4, 5, 9)
	want(t, "one of the midst, there", ids.With(l, 5), 2, 4, 5, 9)
	want(t, "the last, there", ids.With(l, 9), 2, 4, 5, 9)
	want(t, "none", ids.With(nil, 7), 7)
	want(t, "an empty one", ids.With([]int{}, 0), 0)
	want(t, "one, below", ids.With([]int{3}, -3), -3, 3)
	want(t, "one, itself", ids.With([]int{3}, 3), 3)
	want(t, "the ends of an int", ids.With(ids.With(l, lowest), highest), lowest, 2, 4, 5, 9, highest)
	want(t, "between the ends", ids.With([]int{lowest, highest}, 0), lowest, 0, highest)
	want(t, "an end, there", ids.With([]int{lowest, highest}, highest), lowest, highest)
}

// P7.1: Without takes a number away, if it is there.
func TestWithout(t *testing.T) {
	l := []int{2, 4, 5, 9}
	want(t, "the first", ids.Without(l, 2), 4, 5, 9)
	want(t, "one of the midst", ids.Without(l, 4), 2, 5, 9)
	want(t, "its neighbour", ids.Without(l, 5), 2, 4, 9)
	want(t, "the last", ids.Without(l, 9), 2, 4, 5)
	for _, n := range []int{lowest, -1, 0, 1, 3, 6, 8, 10, highest} {
		want(t, "one that isn't there", ids.Without(l, n), l...)
	}
	want(t, "none", ids.Without(nil, 7))
	want(t, "an empty one", ids.Without([]int{}, 0))
	want(t, "the only one", ids.Without([]int{3}, 3))
	want(t, "another than the only one", ids.Without([]int{3}, 4), 3)
	want(t, "the lowest int", ids.Without([]int{lowest, 0, highest}, lowest), 0, highest)
	want(t, "the highest int", ids.Without([]int{lowest, 0, highest}, highest), lowest, 0)
	want(t, "ends that are there", ids.Without([]int{lowest, highest}, 0), lowest, highest)
}

// P7.1: Has tells whether a number is there.
func TestHas(t *testing.T) {
	for _, l := range [][]int{nil, {}, {3}, {-5, 0}, {2, 4, 5, 9}, {lowest, 0, highest}, {lowest}, {highest}} {
		for _, n := range []int{lowest, lowest + 1, -6, -5, -1, 0, 1, 2, 3, 4, 5, 6, 8, 9, 10, highest - 1, highest} {
			if got := ids.Has(l, n); got != slices.Contains(l, n) {
				t.Errorf("Has(%v, %d): %v", l, n, got)
			}
		}
	}
}

// P7.1: Both gives what is in one of the two, each once.
func TestBoth(t *testing.T) {
	l := []int{2, 4, 5, 9}
	want(t, "none and none", ids.Both(nil, nil))
	want(t, "none and an empty one", ids.Both(nil, []int{}))
	want(t, "none and a row", ids.Both(nil, l), l...)
	want(t, "a row and none", ids.Both(l, nil), l...)
	want(t, "an empty one and a row", ids.Both([]int{}, l), l...)
	want(t, "a row and itself", ids.Both(l, l), l...)
	want(t, "by turns", ids.Both([]int{1, 3, 5}, []int{2, 4, 6}), upTo(1, 6)...)
	want(t, "by turns, the other way", ids.Both([]int{2, 4, 6}, []int{1, 3, 5}), upTo(1, 6)...)
	want(t, "one ahead of the other", ids.Both([]int{1, 2}, []int{7, 8}), 1, 2, 7, 8)
	want(t, "one behind the other", ids.Both([]int{7, 8}, []int{1, 2}), 1, 2, 7, 8)
	want(t, "one within the other", ids.Both([]int{1, 9}, []int{3, 4}), 1, 3, 4, 9)
	want(t, "the other within the one", ids.Both([]int{3, 4}, []int{1, 9}), 1, 3, 4, 9)
	want(t, "some in each", ids.Both([]int{1, 5, 8}, []int{0, 1, 5, 6}), 0, 1, 5, 6, 8)
	want(t, "the last in each", ids.Both([]int{1, 9}, []int{2, 9}), 1, 2, 9)
	want(t, "the ends of an int", ids.Both([]int{lowest, highest}, []int{lowest, 0, highest}), lowest, 0, highest)
}

// P7.1: Run gives the least number from which as many are there as are asked for.
func TestRun(t *testing.T) {
	wantRun(t, []int{2, 4, 5}, 2, 4, true) // the chapter's example

	l := []int{2, 4, 5, 7, 8, 9, 11}
	wantRun(t, l, 1, 2, true)
	wantRun(t, l, 2, 4, true) // the least, though 7, 8 is one too
	wantRun(t, l, 3, 7, true) // in the midst
	wantRun(t, l, 4, 0, false)
	wantRun(t, l, len(l), 0, false)
	wantRun(t, l, len(l)+1, 0, false)

	wantRun(t, []int{1, 2, 3, 7, 9}, 3, 1, true)  // at the front
	wantRun(t, []int{1, 3, 7, 8, 9}, 3, 7, true)  // at the end
	wantRun(t, []int{1, 2, 4, 5, 6}, 3, 4, true)  // behind one that is too short
	wantRun(t, []int{1, 2, 3, 5, 6}, 3, 1, true)  // ahead of one that is too short
	wantRun(t, []int{1, 2, 3, 5, 6}, 4, 0, false) // two that are too short make none
	wantRun(t, []int{3, 4, 5, 6, 7}, 2, 3, true)  // the beginning of a longer one
	wantRun(t, []int{1, 3, 5, 7, 9}, 2, 0, false)
	wantRun(t, []int{1, 3, 5, 7, 9}, 1, 1, true)

	wantRun(t, upTo(5, 9), 5, 5, true) // as long as the row
	wantRun(t, upTo(5, 9), 6, 0, false)
	wantRun(t, upTo(-2, 2), 4, -2, true)
	wantRun(t, []int{-9, -1, 0, 1}, 2, -1, true) // a run over 0
	wantRun(t, []int{-1, 1}, 2, 0, false)
	wantRun(t, []int{0, 1}, 2, 0, true) // 0 and true: found, from 0 on
	wantRun(t, []int{3}, 1, 3, true)
	wantRun(t, []int{3}, 2, 0, false)
}

// P7.1: of a run of none, or in no row, Run finds none.
func TestRunOfNone(t *testing.T) {
	for _, l := range [][]int{nil, {}, {0}, {3}, {2, 3, 4}, {lowest, highest}} {
		for _, n := range []int{0, -1, -2, -3, lowest + 1, lowest} {
			wantRun(t, l, n, 0, false)
		}
		for _, n := range []int{len(l) + 1, len(l) + 2, 1000, highest - 1, highest} {
			wantRun(t, l, n, 0, false)
		}
	}
	for _, n := range []int{1, 2, 3} {
		wantRun(t, nil, n, 0, false)
		wantRun(t, []int{}, n, 0, false)
	}
}

// P7.1: at the ends of an int a run doesn't go round.
func TestRunAtTheEnds(t *testing.T) {
	low, high := []int{lowest, lowest + 1}, []int{highest - 2, highest - 1, highest}
	wantRun(t, low, 2, lowest, true)
	wantRun(t, high, 3, highest-2, true)
	wantRun(t, high, 4, 0, false)
	wantRun(t, slices.Concat(low, high), 3, highest-2, true)
	wantRun(t, slices.Concat(low, high), 4, 0, false)
	wantRun(t, []int{lowest, highest}, 2, 0, false)
	wantRun(t, []int{lowest, -1, 0, highest}, 2, -1, true)
}

// P7.1: of many that just miss it Run still tells the least, soon.
func TestRunOfALongRow(t *testing.T) {
	const long = 1 << 17
	l := upTo(0, long-1)
	l = append(l, upTo(long+1, 2*long)...)
	l = append(l, upTo(2*long+2, 3*long+2)...)
	wantRun(t, l, long, 0, true)
	wantRun(t, l, long+1, 2*long+2, true)
	wantRun(t, l, long+2, 0, false)
}

// P7.1: Drop gives the row without so many numbers from one on, there or not.
func TestDrop(t *testing.T) {
	l := []int{2, 4, 5, 7, 8, 9, 11}
	want(t, "a run", ids.Drop(l, 7, 3), 2, 4, 5, 11)
	want(t, "the first of a run", ids.Drop(l, 7, 1), 2, 4, 5, 8, 9, 11)
	want(t, "the midst of a run", ids.Drop(l, 8, 1), 2, 4, 5, 7, 9, 11)
	want(t, "over a gap", ids.Drop(l, 4, 4), 2, 8, 9, 11)
	want(t, "from one that isn't there", ids.Drop(l, 3, 2), 2, 5, 7, 8, 9, 11)
	want(t, "to one that isn't there", ids.Drop(l, 5, 2), 2, 4, 7, 8, 9, 11)
	want(t, "what isn't there at all", ids.Drop(l, 6, 1), l...)
	want(t, "the first", ids.Drop(l, 2, 1), 4, 5, 7, 8, 9, 11)
	want(t, "the last", ids.Drop(l, 11, 1), 2, 4, 5, 7, 8, 9)
	want(t, "from below the first", ids.Drop(l, 0, 5), 5, 7, 8, 9, 11)
	want(t, "just below the first", ids.Drop(l, 0, 2), l...)
	want(t, "from far below", ids.Drop(l, -100, 50), l...)
	want(t, "from the last on", ids.Drop(l, 11, 100), 2, 4, 5, 7, 8, 9)
	want(t, "from above the last", ids.Drop(l, 12, 3), l...)
	want(t, "more than there are", ids.Drop(l, 5, 100), 2, 4)
	want(t, "all", ids.Drop(l, 2, 10))
	want(t, "all but the last", ids.Drop(l, 2, 9), 11)
	want(t, "of none", ids.Drop(nil, 0, 3))
	want(t, "of an empty one", ids.Drop([]int{}, 0, 3))
	want(t, "of one", ids.Drop([]int{3}, 3, 1))
	want(t, "of one, another", ids.Drop([]int{3}, 4, 1), 3)
}

// P7.1: Drop of none, and of less than none, gives the whole row.
func TestDropNone(t *testing.T) {
	for _, l := range [][]int{nil, {3}, {2, 4, 5}, {lowest, 0, highest}} {
		for _, n := range []int{0, -1, -2, -5, lowest + 1, lowest} {
			for _, from := range []int{lowest, -1, 0, 2, 3, 5, 6, highest} {
				want(t, "none", ids.Drop(l, from, n), l...)
			}
		}
	}
}

// P7.1: at the ends of an int what is dropped doesn't go round.
func TestDropAtTheEnds(t *testing.T) {
	l := []int{lowest, lowest + 1, -1, 0, 1, highest - 1, highest}
	want(t, "the lowest", ids.Drop(l, lowest, 1), l[1:]...)
	want(t, "the highest", ids.Drop(l, highest, 1), l[:6]...)
	want(t, "past the highest", ids.Drop(l, highest, highest), l[:6]...)
	want(t, "past the highest, by one", ids.Drop(l, highest-1, 3), l[:5]...)
	want(t, "the upper half", ids.Drop(l, 1, highest), l[:4]...)
	want(t, "the upper half and 0", ids.Drop(l, 0, highest), lowest, lowest+1, -1, highest)
	want(t, "the lower half but -1", ids.Drop(l, lowest, highest), l[2:]...)
	want(t, "round 0", ids.Drop(l, -1, highest), lowest, lowest+1, highest-1, highest)
}

// P7.2: pages side by side: a run that was found is taken out of the row, and nothing else.
func TestRunIsTaken(t *testing.T) {
	l := []int{2, 4, 5, 7, 8, 9, 11, 12, 13}
	for _, c := range []struct {
		n, first int
		left     []int
	}{
		{3, 7, []int{2, 4, 5, 11, 12, 13}},
		{2, 4, []int{2, 11, 12, 13}},
		{3, 11, []int{2}},
		{1, 2, nil},
	} {
		wantRun(t, l, c.n, c.first, true)
		l = ids.Drop(l, c.first, c.n)
		want(t, "left", l, c.left...)
	}
	wantRun(t, l, 1, 0, false)
}

// P7.2: pages that are given back, one by one, lie side by side again.
func TestRunIsMade(t *testing.T) {
	var l []int
	for _, n := range []int{6, 4, 8, 5} {
		wantRun(t, l, 3, 0, false)
		l = ids.With(l, n)
	}
	wantRun(t, l, 3, 4, true)
	l = ids.Both(l, []int{3, 7})
	wantRun(t, l, 6, 3, true)
	l = ids.Without(l, 5)
	wantRun(t, l, 3, 6, true)
	wantRun(t, l, 4, 0, false)
}

// P7.1: of what doesn't rise Is tells it, and each call comes back.
func TestRowsThatDontRise(t *testing.T) {
	for _, l := range [][]int{
		{3, 3}, {2, 1}, {9, 5, 5, 1}, {1, 2, 1, 2}, {highest, lowest}, {highest, lowest, highest}, {0, 0, 0, 0, 0},
	} {
		if ids.Is(l) {
			t.Errorf("Is(%v)", l)
		}
		was := slices.Clone(l)
		for _, n := range []int{lowest, -1, 0, 1, 2, 3, 5, highest} {
			ids.With(l, n)
			ids.Without(l, n)
			ids.Has(l, n)
			ids.Run(l, n)
			for _, from := range []int{lowest, -1, 0, 1, 5, highest} {
				ids.Drop(l, from, n)
			}
		}
		ids.Both(l, l)
		ids.Both(l, []int{1, 2})
		ids.Both([]int{1, 2}, l)
		want(t, "handed in", l, was...)
	}
}

// answers gives what every call that gives a row answers of these rows, each of them a way in which nothing or something changes.
func answers(a, b []int) [][]int {
	return [][]int{
		ids.With(a, 5), ids.With(a, 6), ids.With(a, 0), ids.With(a, 99), ids.With(b[:0], 3),
		ids.Without(a, 5), ids.Without(a, 6), ids.Without(a, 2), ids.Without(a, 9),
		ids.Both(a, b), ids.Both(b, a), ids.Both(a, nil), ids.Both(nil, a), ids.Both(a, a),
		ids.Drop(a, 4, 2), ids.Drop(a, 2, 1), ids.Drop(a, 9, 1), ids.Drop(a, 4, 0), ids.Drop(a, 50, 3), ids.Drop(a, 0, 99),
	}
}

func clones(rows [][]int) [][]int {
	var out [][]int
	for _, row := range rows {
		out = append(out, slices.Clone(row))
	}
	return out
}

// spoil writes over a row and over the spare room behind it.
func spoil(row []int) {
	row = row[:cap(row)]
	for i := range row {
		row[i] = -77
	}
}

// P7.1: what is handed in isn't changed, nor is the spare room behind it.
func TestHandedInStays(t *testing.T) {
	a, b := []int{2, 4, 5, 9, -1, -2, -3}, []int{1, 5, 12, -4, -5}
	answers(a[:4], b[:3])
	ids.Is(a[:4])
	ids.Has(a[:4], 9)
	ids.Run(a[:4], 2)
	want(t, "a", a, 2, 4, 5, 9, -1, -2, -3)
	want(t, "b", b, 1, 5, 12, -4, -5)
}

// P7.1: an answer is new memory, its spare room too.
func TestAnswersAreNew(t *testing.T) {
	a, b := []int{2, 4, 5, 9, -1, -2, -3}, []int{1, 5, 12, -4, -5}
	rows := answers(a[:4], b[:3])
	were := clones(rows)
	for i := range rows {
		spoil(rows[i])
		for j := i + 1; j < len(rows); j++ {
			want(t, "another answer", rows[j], were[j]...)
		}
	}
	want(t, "a", a, 2, 4, 5, 9, -1, -2, -3)
	want(t, "b", b, 1, 5, 12, -4, -5)

	rows = answers(a[:4], b[:3])
	spoil(a)
	spoil(b)
	for i := range rows {
		want(t, "an answer", rows[i], were[i]...)
	}
}

// rowOf gives a set as a row.
func rowOf(set map[int]struct{}) []int {
	var row []int
	for n := range set {
		row = append(row, n)
	}
	slices.Sort(row)
	return row
}

// some gives a set of numbers that lie close together, near base.
func some(r *rand.Rand, base int) map[int]struct{} {
	set := map[int]struct{}{}
	for range r.IntN(20) {
		set[base+r.IntN(24)] = struct{}{}
	}
	return set
}

// leastRun finds a run by trying each number.
func leastRun(set map[int]struct{}, n int) (int, bool) {
	for _, first := range rowOf(set) {
		found := true
		for i := range n {
			_, there := set[first+i]
			found = found && there && first+i >= first
		}
		if found && n > 0 {
			return first, true
		}
	}
	return 0, false
}

// P7.1, P7.2: rows answer as sets do.
func TestAgainstSets(t *testing.T) {
	r := rand.New(rand.NewPCG(7, 1))
	for range 20000 {
		base := []int{-12, 0, 3, lowest, highest - 23}[r.IntN(5)]
		set, other := some(r, base), some(r, base)
		l, b := rowOf(set), rowOf(other)
		n, from := r.IntN(9)-1, base+r.IntN(24)
		first, found := leastRun(set, n)
		wantRun(t, l, n, first, found)

		all, without, with, dropped := map[int]struct{}{}, map[int]struct{}{}, map[int]struct{}{from: {}}, map[int]struct{}{}
		for x := range set {
			all[x], with[x] = struct{}{}, struct{}{}
			if x != from {
				without[x] = struct{}{}
			}
			if x-base < from-base || x-base >= from-base+n {
				dropped[x] = struct{}{}
			}
		}
		for x := range other {
			all[x] = struct{}{}
		}
		want(t, "With", ids.With(l, from), rowOf(with)...)
		want(t, "Without", ids.Without(l, from), rowOf(without)...)
		want(t, "Both", ids.Both(l, b), rowOf(all)...)
		want(t, "Drop", ids.Drop(l, from, n), rowOf(dropped)...)
		if _, there := set[from]; ids.Has(l, from) != there || !ids.Is(l) || !ids.Is(ids.Both(l, b)) {
			t.Fatalf("Has(%v, %d), Is", l, from)
		}
	}
}
