package store_test

import (
	"errors"
	"math"
	"math/rand/v2"
	"slices"
	"testing"

	"copyhold/api"
	"copyhold/file"
	"copyhold/page"
	"copyhold/store"
)

const (
	lowest  = math.MinInt
	highest = math.MaxInt
)

func over(text string) api.Page { return api.Page{Kind: api.POver, Text: text} }

// fileOf gives a file with the two metas' places, and behind them these texts, a page each.
func fileOf(texts ...string) *file.File {
	pages := []string{"", ""}
	for _, text := range texts {
		pages = append(pages, page.Bytes(over(text)))
	}
	return file.New(pages)
}

// upTo gives the numbers from a up to b.
func upTo(a, b int) []int {
	var l []int
	for n := a; n <= b; n++ {
		l = append(l, n)
	}
	return l
}

// state: all that a store tells of its numbers.
type state struct {
	dirty, freed, avail []int
	last                int
}

func wantState(t *testing.T, s *store.Store, want state) {
	t.Helper()
	if got := s.Dirty(); !slices.Equal(got, want.dirty) {
		t.Errorf("Dirty: %v, not %v", got, want.dirty)
	}
	if got := s.Freed(); !slices.Equal(got, want.freed) {
		t.Errorf("Freed: %v, not %v", got, want.freed)
	}
	if got := s.Avail(); !slices.Equal(got, want.avail) {
		t.Errorf("Avail: %v, not %v", got, want.avail)
	}
	if got := s.Last(); got != want.last {
		t.Errorf("Last: %d, not %d", got, want.last)
	}
}

// same tells whether err has this number; api.OK stands for no error.
func same(err error, number api.Errno) bool {
	if number == api.OK {
		return err == nil
	}
	return errors.Is(err, number)
}

func wantPage(t *testing.T, s *store.Store, id int, want api.Page) {
	t.Helper()
	if p, err := s.Read(id); err != nil || !page.Same(p, want) {
		t.Errorf("Read(%d): %v, %v; not %v", id, p, err, want)
	}
}

func wantText(t *testing.T, s *store.Store, id int, text string) {
	t.Helper()
	wantPage(t, s, id, over(text))
}

func wantNoPage(t *testing.T, s *store.Store, id int, number api.Errno) {
	t.Helper()
	p, err := s.Read(id)
	if !same(err, number) || !page.Same(p, api.Page{}) {
		t.Errorf("Read(%d): %v, %v; not %v", id, p, err, number)
	}
}

func wantNumber(t *testing.T, what string, got int, err error, want int, number api.Errno) {
	t.Helper()
	if got != want || !same(err, number) {
		t.Errorf("%s: %d, %v; not %d, %v", what, got, err, want, number)
	}
}

func wantAdd(t *testing.T, s *store.Store, p api.Page, want int, number api.Errno) {
	t.Helper()
	got, err := s.Add(p)
	wantNumber(t, "Add", got, err, want, number)
}

func wantTouch(t *testing.T, s *store.Store, id, want int, number api.Errno) {
	t.Helper()
	got, err := s.Touch(id)
	wantNumber(t, "Touch", got, err, want, number)
}

func wantRun(t *testing.T, s *store.Store, n, want int, number api.Errno) {
	t.Helper()
	got, err := s.Run(n)
	wantNumber(t, "Run", got, err, want, number)
}

func wantSet(t *testing.T, s *store.Store, id int, p api.Page, number api.Errno) {
	t.Helper()
	if err := s.Set(id, p); !same(err, number) {
		t.Errorf("Set(%d): %v, not %v", id, err, number)
	}
}

// goodPages gives one page of each kind.
func goodPages() []api.Page {
	return []api.Page{
		{Kind: api.PLeaf, Items: []api.Item{
			{Key: "a", Kind: api.IVal, Val: "value"},
			{Key: "b", Kind: api.ILong, Run: 7, Len: 13},
			{Key: "c", Kind: api.IDup, Vals: []string{"x", "y"}},
			{Key: "d", Kind: api.IRoot, Root: api.Root{Page: 9, Count: 3, Flags: api.FDup}},
		}},
		{Kind: api.PBranch, Keys: []string{"", "k"}, Kids: []int{2, 399}},
		over("text"),
		{Kind: api.PDup, Vals: []string{"a", "b", "c", "d"}},
		{Kind: api.PFree, Free: []api.Free{{Txn: 1, IDs: []int{2, 4}}, {Txn: 5, IDs: []int{3}}}, Next: 8},
		{Kind: api.PMeta, Meta: api.Meta{Txn: 4, Main: api.Root{Page: 3, Count: 1}, Free: 5, Last: 12}},
	}
}

// badPages gives some that aren't page's Is.
func badPages() []api.Page {
	return []api.Page{
		{},
		{Kind: 7},
		{Kind: -1, Text: "x"},
		{Kind: api.POver},
		{Kind: api.POver, Text: "x", Next: 3},
		{Kind: api.PLeaf},
		{Kind: api.PLeaf, Items: []api.Item{{Key: "b", Kind: api.IVal}, {Key: "a", Kind: api.IVal}}},
		{Kind: api.PBranch, Keys: []string{""}, Kids: []int{2}},
		{Kind: api.PBranch, Keys: []string{"", "k"}, Kids: []int{1, 2}},
		{Kind: api.PDup, Vals: []string{"a", "b", "c"}},
		{Kind: api.PMeta},
	}
}

// P8.1: a new store has made and freed nothing; last and most are held from 2 to MaxPages.
func TestNewHolds(t *testing.T) {
	for _, c := range []struct{ last, want int }{
		{lowest, 2}, {-1, 2}, {0, 2}, {1, 2}, {2, 2}, {3, 3}, {57, 57},
		{api.MaxPages - 1, api.MaxPages - 1}, {api.MaxPages, api.MaxPages}, {api.MaxPages + 1, api.MaxPages}, {highest, api.MaxPages},
	} {
		wantState(t, store.New(fileOf(), c.last, api.MaxPages, nil), state{last: c.want})
		wantState(t, store.New(fileOf(), c.last, lowest, []int{}), state{last: c.want})
	}
	pages := make([]string, api.MaxPages)
	for i := range pages {
		pages[i] = page.Bytes(over("x"))
	}
	f := file.New(pages)
	for _, c := range []struct{ most, want int }{
		{lowest, 2}, {-1, 2}, {1, 2}, {2, 2}, {3, 3}, {57, 57},
		{api.MaxPages - 1, api.MaxPages - 1}, {api.MaxPages, api.MaxPages}, {api.MaxPages + 1, api.MaxPages}, {highest, api.MaxPages},
	} {
		s := store.New(f, 2, c.most, nil)
		if c.want > 2 {
			wantText(t, s, c.want-1, "x")
		}
		wantNoPage(t, s, c.want, api.ErrMap)
	}
}

// P8.1: of the numbers handed in those from 2 on, below last and below most, are available, each once, rising.
func TestNewSifts(t *testing.T) {
	for _, c := range []struct {
		last, most int
		avail      []int
		want       []int
	}{
		{10, 400, nil, nil},
		{10, 400, []int{}, nil},
		{10, 400, []int{3, 5}, []int{3, 5}},
		{10, 400, []int{9, 2, 5}, []int{2, 5, 9}},
		{10, 400, []int{5, 5, 3, 5, 3}, []int{3, 5}},
		{10, 400, []int{2, 2, 2}, []int{2}},
		{10, 400, []int{lowest, -1, 0, 1, 2, 9, 10, 11, highest}, []int{2, 9}},
		{10, 400, []int{highest, 10, 1, lowest}, nil},
		{10, 400, []int{10, 4, 10, 1, 4}, []int{4}},
		{20, 6, []int{4, 5, 6, 7, 19}, []int{4, 5}},
		{6, 20, []int{4, 5, 6, 7, 19}, []int{4, 5}},
		{6, 6, []int{7, 6, 5}, []int{5}},
		{2, 400, []int{2, 3}, nil},
		{-7, 400, []int{2, 3}, nil},
		{400, 2, []int{2, 3}, nil},
		{400, 0, []int{2, 3}, nil},
		{3, 3, []int{2, 3}, []int{2}},
		{1000, 1000, []int{400, 399, 2, 401}, []int{2, 399}},
		{399, 1000, []int{400, 399, 398}, []int{398}},
		{1000, 399, []int{400, 399, 398}, []int{398}},
		{400, 400, upTo(-3, 500), upTo(2, 399)},
	} {
		s := store.New(fileOf(), c.last, c.most, c.avail)
		if got := s.Avail(); !slices.Equal(got, c.want) {
			t.Errorf("New(%d, %d, %v): Avail %v, not %v", c.last, c.most, c.avail, got, c.want)
		}
	}
}

// P8.1: what isn't dirty is read from the file, below most, whether it is in use, available, freed, or behind Last.
func TestReadOfTheFile(t *testing.T) {
	s := store.New(fileOf("a", "b", "c", "d", "e"), 6, 9, []int{3})
	s.Drop(4)
	for id, text := range map[int]string{2: "a", 3: "b", 4: "c", 5: "d", 6: "e"} {
		wantText(t, s, id, text)
	}
	for _, id := range []int{7, 8} {
		wantNoPage(t, s, id, api.ErrCorrupt)
	}
	for _, id := range []int{lowest, -2, -1, 0, 1, 9, 10, 399, 400, 401, highest} {
		wantNoPage(t, s, id, api.ErrMap)
	}
}

// P8.1: each kind of a page is read as it was written, from the file and from what was added.
func TestReadOfAllKinds(t *testing.T) {
	pages := []string{"", ""}
	for _, p := range goodPages() {
		pages = append(pages, page.Bytes(p))
	}
	s := store.New(file.New(pages), len(pages), api.MaxPages, nil)
	for i, p := range goodPages() {
		wantPage(t, s, 2+i, p)
		wantAdd(t, s, p, len(pages)+i, api.OK)
		wantPage(t, s, len(pages)+i, p)
	}
}

// P8.1: bytes of the file that are no page are seen, by Read and by Touch, which then takes no number.
func TestCorruptBytes(t *testing.T) {
	good := page.Bytes(over("a"))
	f := file.New([]string{good, good, "", "x", good[:len(good)-1], good + "0", good, "0" + good})
	s := store.New(f, 8, 400, []int{3})
	for _, id := range []int{2, 3, 4, 5, 7, 8, 399} {
		wantNoPage(t, s, id, api.ErrCorrupt)
		wantTouch(t, s, id, 0, api.ErrCorrupt)
	}
	for _, id := range []int{0, 1} {
		wantNoPage(t, s, id, api.ErrMap)
	}
	wantText(t, s, 6, "a")
	wantState(t, s, state{avail: []int{3}, last: 8})
}

// P8.1: the file is read when it is asked, not when the store is made.
func TestReadsWhatTheFileHasNow(t *testing.T) {
	f := fileOf("a")
	s := store.New(f, 3, 400, nil)
	if err := f.Write(2, page.Bytes(over("later"))); err != nil {
		t.Fatal(err)
	}
	wantText(t, s, 2, "later")
	wantText(t, s.Copy(), 2, "later")
}

// P8.1: a new number is the least of Avail, which is there no more, then Last, which is one more.
func TestAddTakesTheLeast(t *testing.T) {
	s := store.New(fileOf("a", "b", "c", "d"), 6, 8, []int{5, 3})
	wantAdd(t, s, over("one"), 3, api.OK)
	wantState(t, s, state{dirty: []int{3}, avail: []int{5}, last: 6})
	wantAdd(t, s, over("two"), 5, api.OK)
	wantState(t, s, state{dirty: []int{3, 5}, last: 6})
	wantAdd(t, s, over("three"), 6, api.OK)
	wantState(t, s, state{dirty: []int{3, 5, 6}, last: 7})
	wantAdd(t, s, over("four"), 7, api.OK)
	wantState(t, s, state{dirty: []int{3, 5, 6, 7}, last: 8})
	wantAdd(t, s, over("five"), 0, api.ErrMap)
	wantState(t, s, state{dirty: []int{3, 5, 6, 7}, last: 8})
	for id, text := range map[int]string{2: "a", 3: "one", 4: "c", 5: "two", 6: "three", 7: "four"} {
		wantText(t, s, id, text)
	}
}

// P8.1: what isn't a page isn't added, ahead of any other error.
func TestAddOfWhatIsNone(t *testing.T) {
	for _, p := range badPages() {
		s := store.New(fileOf("a"), 3, 400, nil)
		wantAdd(t, s, p, 0, api.ErrForm)
		wantState(t, s, state{last: 3})
		wantAdd(t, store.New(fileOf(), 3, 3, nil), p, 0, api.ErrForm)
	}
	s := store.New(fileOf(), 2, 400, nil)
	wantRun(t, s, api.MaxDirty, 2, api.OK)
	wantAdd(t, s, api.Page{}, 0, api.ErrForm)
}

// P8.1: the last number that can be seen may be taken, one more not; where last is above most, only what is available.
func TestMost(t *testing.T) {
	s := store.New(fileOf(), 399, 400, nil)
	wantAdd(t, s, over("x"), 399, api.OK)
	wantAdd(t, s, over("y"), 0, api.ErrMap)
	wantState(t, s, state{dirty: []int{399}, last: 400})
	wantText(t, s, 399, "x")

	s = store.New(fileOf("a", "b", "c", "d"), 6, 4, []int{3, 4, 5})
	wantTouch(t, s, 2, 3, api.OK)
	wantTouch(t, s, 2, 0, api.ErrMap)
	wantAdd(t, s, over("x"), 0, api.ErrMap)
	wantRun(t, s, 1, 0, api.ErrMap)
	wantNoPage(t, s, 4, api.ErrMap)
	wantTouch(t, s, 4, 0, api.ErrMap)
	wantState(t, s, state{dirty: []int{3}, freed: []int{2}, last: 6})

	s = store.New(fileOf("a"), 3, 2, nil)
	wantNoPage(t, s, 2, api.ErrMap)
	wantAdd(t, s, over("x"), 0, api.ErrMap)
	wantState(t, s, state{last: 3})
}

// P8.1: MaxDirty pages may be dirty, one more not, though there are numbers enough; a dropped one makes room.
func TestMaxDirtyByAdd(t *testing.T) {
	s := store.New(fileOf(), 200, 400, []int{150, 7})
	wantAdd(t, s, over("x"), 7, api.OK)
	wantAdd(t, s, over("x"), 150, api.OK)
	for i := range api.MaxDirty - 2 {
		wantAdd(t, s, over("x"), 200+i, api.OK)
	}
	full := state{dirty: append([]int{7, 150}, upTo(200, 200+api.MaxDirty-3)...), last: 200 + api.MaxDirty - 2}
	wantState(t, s, full)
	wantAdd(t, s, over("y"), 0, api.ErrTxn)
	wantState(t, s, full)
	wantSet(t, s, 7, over("set"), api.OK)
	wantTouch(t, s, 7, 7, api.OK)
	s.Drop(150)
	wantAdd(t, s, over("z"), 150, api.OK)
	wantAdd(t, s, over("y"), 0, api.ErrTxn)
	wantState(t, s, full)
	wantText(t, s, 150, "z")
}

// P8.1: Touch of a page of the file, where MaxDirty are dirty, is refused, and the page isn't freed.
func TestTouchWhereTooManyAreDirty(t *testing.T) {
	s := store.New(fileOf("a"), 3, 400, nil)
	wantRun(t, s, api.MaxDirty, 3, api.OK)
	full := state{dirty: upTo(3, 2+api.MaxDirty), last: 3 + api.MaxDirty}
	wantTouch(t, s, 2, 0, api.ErrTxn)
	wantState(t, s, full)
	wantTouch(t, s, 200, 0, api.ErrCorrupt)
	wantTouch(t, s, 1, 0, api.ErrMap)
	wantTouch(t, s, 3, 3, api.OK)
	wantState(t, s, full)
}

// P8.1: Set puts a page on a dirty number only.
func TestSet(t *testing.T) {
	s := store.New(fileOf("a", "b", "c"), 5, 400, []int{4})
	wantAdd(t, s, over("new"), 4, api.OK)
	wantAdd(t, s, over("end"), 5, api.OK)
	s.Drop(5)
	for _, id := range []int{lowest, -4, -1, 0, 1, 2, 3, 5, 6, 399, 400, 401, highest} {
		wantSet(t, s, id, over("x"), api.ErrForm)
	}
	for _, p := range badPages() {
		wantSet(t, s, 4, p, api.ErrForm)
	}
	wantText(t, s, 4, "new")
	for _, p := range goodPages() {
		wantSet(t, s, 4, p, api.OK)
		wantPage(t, s, 4, p)
	}
	wantState(t, s, state{dirty: []int{4}, avail: []int{5}, last: 6})
	wantText(t, s, 2, "a")
	wantText(t, s, 3, "b")
}

// P8.1: Touch of a page of the file gives another number with the same on it, and the page is freed; of a dirty one it is that one.
func TestTouch(t *testing.T) {
	s := store.New(fileOf("a", "b", "c", "d"), 6, 400, []int{3})
	wantTouch(t, s, 5, 3, api.OK)
	wantState(t, s, state{dirty: []int{3}, freed: []int{5}, last: 6})
	wantText(t, s, 3, "d")
	wantText(t, s, 5, "d")
	wantTouch(t, s, 3, 3, api.OK)
	wantState(t, s, state{dirty: []int{3}, freed: []int{5}, last: 6})
	wantTouch(t, s, 2, 6, api.OK)
	wantTouch(t, s, 6, 6, api.OK)
	wantState(t, s, state{dirty: []int{3, 6}, freed: []int{2, 5}, last: 7})
	wantText(t, s, 6, "a")
	wantSet(t, s, 6, over("changed"), api.OK)
	wantText(t, s, 6, "changed")
	wantText(t, s, 2, "a")
	wantTouch(t, s, 2, 7, api.OK)
	wantState(t, s, state{dirty: []int{3, 6, 7}, freed: []int{2, 5}, last: 8})
	wantText(t, s, 7, "a")
}

// P8.1: Touch of numbers that may not be is Read's error, and changes nothing.
func TestTouchOfWhatIsNone(t *testing.T) {
	s := store.New(fileOf("a", "b"), 4, 10, []int{3})
	for _, id := range []int{lowest, -1, 0, 1, 10, 11, 399, 400, highest} {
		wantTouch(t, s, id, 0, api.ErrMap)
	}
	for _, id := range []int{4, 5, 9} {
		wantTouch(t, s, id, 0, api.ErrCorrupt)
	}
	wantState(t, s, state{avail: []int{3}, last: 4})
}

// P8.1: Touch of a number of Avail, or from Last on, on which the file has a page: Read, Add, then Drop, in these words.
func TestTouchOfWhatIsNotInUse(t *testing.T) {
	s := store.New(fileOf("a", "b", "c", "d", "e", "f"), 6, 400, []int{3, 5})
	wantTouch(t, s, 5, 3, api.OK)
	wantState(t, s, state{dirty: []int{3}, avail: []int{5}, last: 6})
	wantText(t, s, 3, "d")
	wantTouch(t, s, 5, 5, api.OK)
	wantState(t, s, state{dirty: []int{3}, avail: []int{5}, last: 6})
	wantTouch(t, s, 7, 5, api.OK)
	wantState(t, s, state{dirty: []int{3, 5}, last: 6})
	wantText(t, s, 5, "f")
	wantTouch(t, s, 7, 6, api.OK)
	wantState(t, s, state{dirty: []int{3, 5, 6}, last: 7})
	wantTouch(t, s, 7, 7, api.OK)
	wantState(t, s, state{dirty: []int{3, 5, 6}, avail: []int{7}, last: 8})
}

// P8.1: a dirty one that is dropped is available, and isn't dirty any more: the file's page is there again.
func TestDropOfDirtyOnes(t *testing.T) {
	s := store.New(fileOf("a", "b"), 4, 400, []int{3})
	wantAdd(t, s, over("x"), 3, api.OK)
	wantAdd(t, s, over("y"), 4, api.OK)
	wantAdd(t, s, over("z"), 5, api.OK)
	s.Drop(5)
	wantState(t, s, state{dirty: []int{3, 4}, avail: []int{5}, last: 6})
	wantNoPage(t, s, 5, api.ErrCorrupt)
	s.Drop(5)
	wantState(t, s, state{dirty: []int{3, 4}, avail: []int{5}, last: 6})
	s.Drop(3)
	wantState(t, s, state{dirty: []int{4}, avail: []int{3, 5}, last: 6})
	wantText(t, s, 3, "b")
	wantSet(t, s, 3, over("no"), api.ErrForm)
	wantAdd(t, s, over("again"), 3, api.OK)
	wantText(t, s, 3, "again")
}

// P8.1: a page of the elder version that is dropped is freed, once, and isn't taken again; numbers that aren't in use are passed over.
func TestDropOfOthers(t *testing.T) {
	s := store.New(fileOf("a", "b", "c", "d"), 6, 400, []int{3})
	for _, id := range []int{5, 2, 5, 2} {
		s.Drop(id)
	}
	wantState(t, s, state{freed: []int{2, 5}, avail: []int{3}, last: 6})
	for _, id := range []int{lowest, -1, 0, 1, 3, 6, 7, 399, 400, highest} {
		s.Drop(id)
	}
	wantState(t, s, state{freed: []int{2, 5}, avail: []int{3}, last: 6})
	wantText(t, s, 5, "d")
	wantSet(t, s, 5, over("no"), api.ErrForm)
	wantAdd(t, s, over("x"), 3, api.OK)
	wantAdd(t, s, over("y"), 6, api.OK)
	wantState(t, s, state{dirty: []int{3, 6}, freed: []int{2, 5}, last: 7})
}

// P8.1: a page below Last is freed, though it is one that can't be seen.
func TestDropFromMostOn(t *testing.T) {
	s := store.New(fileOf("a", "b", "c", "d"), 6, 4, nil)
	for _, id := range []int{4, 5, 6} {
		s.Drop(id)
	}
	wantState(t, s, state{freed: []int{4, 5}, last: 6})
}

// P8.1: numbers side by side: the least run of Avail, else from Last on.
func TestRun(t *testing.T) {
	s := store.New(fileOf(), 20, 30, []int{3, 5, 6, 8, 9, 10, 19})
	wantRun(t, s, 3, 8, api.OK)
	wantState(t, s, state{dirty: upTo(8, 10), avail: []int{3, 5, 6, 19}, last: 20})
	wantRun(t, s, 1, 3, api.OK)
	wantState(t, s, state{dirty: []int{3, 8, 9, 10}, avail: []int{5, 6, 19}, last: 20})
	wantRun(t, s, 3, 20, api.OK)
	wantState(t, s, state{dirty: []int{3, 8, 9, 10, 20, 21, 22}, avail: []int{5, 6, 19}, last: 23})
	wantRun(t, s, 2, 5, api.OK)
	wantRun(t, s, 2, 23, api.OK)
	wantRun(t, s, 1, 19, api.OK)
	wantRun(t, s, 1, 25, api.OK)
	wantState(t, s, state{dirty: []int{3, 5, 6, 8, 9, 10, 19, 20, 21, 22, 23, 24, 25}, last: 26})
}

// P8.1: a run may go up to most, and not above it; what is available at the end isn't made longer.
func TestRunAtTheEnd(t *testing.T) {
	s := store.New(fileOf(), 8, 12, []int{6, 7})
	wantRun(t, s, 5, 0, api.ErrMap)
	wantState(t, s, state{avail: []int{6, 7}, last: 8})
	wantRun(t, s, 4, 8, api.OK)
	wantState(t, s, state{dirty: upTo(8, 11), avail: []int{6, 7}, last: 12})
	wantRun(t, s, 3, 0, api.ErrMap)
	wantRun(t, s, 2, 6, api.OK)
	wantRun(t, s, 1, 0, api.ErrMap)
	wantState(t, s, state{dirty: upTo(6, 11), last: 12})

	s = store.New(fileOf(), 400, 400, nil)
	wantRun(t, s, 1, 0, api.ErrMap)
	s = store.New(fileOf(), 399, 400, nil)
	wantRun(t, s, 2, 0, api.ErrMap)
	wantRun(t, s, 1, 399, api.OK)
	wantState(t, s, state{dirty: []int{399}, last: 400})
}

// P8.1, P8.2: Run of less than 1 is ill-formed, ahead of all else; of more than may be dirty ErrTxn, ahead of ErrMap.
func TestRunOfWhatMayNotBe(t *testing.T) {
	s := store.New(fileOf(), 10, 12, []int{4, 5})
	for _, n := range []int{0, -1, -5, lowest} {
		wantRun(t, s, n, 0, api.ErrForm)
	}
	for _, n := range []int{3, api.MaxDirty} {
		wantRun(t, s, n, 0, api.ErrMap)
	}
	for _, n := range []int{api.MaxDirty + 1, api.MaxPages, highest - 1, highest} {
		wantRun(t, s, n, 0, api.ErrTxn)
	}
	wantState(t, s, state{avail: []int{4, 5}, last: 10})

	s = store.New(fileOf(), 2, api.MaxDirty+2, nil)
	wantRun(t, s, api.MaxDirty, 2, api.OK)
	full := state{dirty: upTo(2, 1+api.MaxDirty), last: 2 + api.MaxDirty}
	for _, n := range []int{0, lowest} {
		wantRun(t, s, n, 0, api.ErrForm)
	}
	for _, n := range []int{1, 2, highest} {
		wantRun(t, s, n, 0, api.ErrTxn)
	}
	wantAdd(t, s, over("x"), 0, api.ErrTxn)
	wantState(t, s, full)
}

// P8.2: as many may be dirty as MaxDirty, by Add and by Run together, whether they come from Avail or from the end.
func TestMaxDirtyByRun(t *testing.T) {
	s := store.New(fileOf(), 300, 400, upTo(2, 299))
	wantRun(t, s, api.MaxDirty-2, 2, api.OK)
	wantAdd(t, s, over("x"), api.MaxDirty, api.OK)
	wantRun(t, s, 2, 0, api.ErrTxn)
	wantRun(t, s, 1, api.MaxDirty+1, api.OK)
	full := state{dirty: upTo(2, api.MaxDirty+1), avail: upTo(api.MaxDirty+2, 299), last: 300}
	wantState(t, s, full)
	wantRun(t, s, 1, 0, api.ErrTxn)
	wantAdd(t, s, over("y"), 0, api.ErrTxn)
	wantState(t, s, full)
	s.Drop(50)
	s.Drop(52)
	wantRun(t, s, 3, 0, api.ErrTxn)
	wantRun(t, s, 2, api.MaxDirty+2, api.OK)
	s.Drop(51)
	wantRun(t, s, 1, 50, api.OK)
}

// P8.2: a number of Run that isn't Set yet is dirty, with nothing on it, though the file has a page there.
func TestNumbersOfRun(t *testing.T) {
	s := store.New(fileOf("a", "b", "c"), 5, 400, []int{3, 4})
	wantRun(t, s, 2, 3, api.OK)
	for _, id := range []int{3, 4} {
		wantNoPage(t, s, id, api.ErrCorrupt)
		wantTouch(t, s, id, id, api.OK)
	}
	wantSet(t, s, 3, api.Page{}, api.ErrForm)
	wantNoPage(t, s, 3, api.ErrCorrupt)
	wantSet(t, s, 4, over("set"), api.OK)
	wantText(t, s, 4, "set")
	wantNoPage(t, s, 3, api.ErrCorrupt)
	wantState(t, s, state{dirty: []int{3, 4}, last: 5})
	wantRun(t, s, 2, 5, api.OK)
	wantNoPage(t, s, 5, api.ErrCorrupt)
	wantNoPage(t, s, 6, api.ErrCorrupt)
	wantSet(t, s, 5, over("five"), api.OK)
	wantText(t, s, 5, "five")
}

// P8.2: a number of Run that is dropped, Set or not, is available, and a later run has nothing of it.
func TestDropOfNumbersOfRun(t *testing.T) {
	s := store.New(fileOf("a", "b", "c"), 5, 400, []int{3, 4})
	wantRun(t, s, 2, 3, api.OK)
	wantSet(t, s, 4, over("set"), api.OK)
	s.Drop(3)
	s.Drop(4)
	wantState(t, s, state{avail: []int{3, 4}, last: 5})
	wantText(t, s, 3, "b")
	wantText(t, s, 4, "c")
	wantSet(t, s, 3, over("no"), api.ErrForm)
	wantRun(t, s, 2, 3, api.OK)
	wantNoPage(t, s, 3, api.ErrCorrupt)
	wantNoPage(t, s, 4, api.ErrCorrupt)
	wantRun(t, s, 3, 5, api.OK)
	s.Drop(6)
	wantState(t, s, state{dirty: []int{3, 4, 5, 7}, avail: []int{6}, last: 8})
}

// P8.1: a copy is like the store, and goes its own way, and so does the store.
func TestCopy(t *testing.T) {
	s := store.New(fileOf("a", "b", "c", "d", "e"), 7, 9, []int{3, 5})
	wantAdd(t, s, over("new"), 3, api.OK)
	wantRun(t, s, 1, 5, api.OK)
	s.Drop(4)
	was := state{dirty: []int{3, 5}, freed: []int{4}, last: 7}
	c := s.Copy()
	wantState(t, c, was)
	wantText(t, c, 3, "new")
	wantNoPage(t, c, 5, api.ErrCorrupt)
	wantText(t, c, 2, "a")
	wantNoPage(t, c, 9, api.ErrMap)

	wantSet(t, c, 3, over("other"), api.OK)
	wantSet(t, c, 5, over("five"), api.OK)
	wantTouch(t, c, 2, 7, api.OK)
	c.Drop(3)
	wantRun(t, c, 1, 3, api.OK)
	c.Drop(3)
	wantState(t, c, state{dirty: []int{5, 7}, freed: []int{2, 4}, avail: []int{3}, last: 8})
	wantState(t, s, was)
	wantText(t, s, 3, "new")
	wantNoPage(t, s, 5, api.ErrCorrupt)

	s.Drop(5)
	s.Drop(6)
	wantSet(t, s, 3, over("mine"), api.OK)
	wantState(t, s, state{dirty: []int{3}, freed: []int{4, 6}, avail: []int{5}, last: 7})
	wantState(t, c, state{dirty: []int{5, 7}, freed: []int{2, 4}, avail: []int{3}, last: 8})
	wantText(t, c, 5, "five")
	wantText(t, c, 7, "a")
	wantAdd(t, c, over("x"), 3, api.OK)
	wantAdd(t, c, over("y"), 8, api.OK)
	wantAdd(t, c, over("z"), 0, api.ErrMap)
	wantAdd(t, s, over("x"), 5, api.OK)
}

// P8.1: two stores over one file know nothing of each other.
func TestStoresAreApart(t *testing.T) {
	f := fileOf("a", "b")
	one, two := store.New(f, 4, 400, []int{3}), store.New(f, 4, 400, []int{3})
	wantTouch(t, one, 2, 3, api.OK)
	wantSet(t, one, 3, over("one"), api.OK)
	wantState(t, two, state{avail: []int{3}, last: 4})
	wantText(t, two, 3, "b")
}

// allOf gives what a file has, and what of it is loose.
func allOf(f *file.File) ([]string, []int) {
	var l []string
	for i := range api.MaxPages {
		l = append(l, f.Read(i))
	}
	return l, f.Loose()
}

// P8.3: whatever is done, the file is as it was, and so is each page of it that isn't dirty.
func TestFileIsNeverChanged(t *testing.T) {
	f := fileOf("a", "b", "c", "d")
	if err := f.Write(7, page.Bytes(over("loose"))); err != nil {
		t.Fatal(err)
	}
	pages, loose := allOf(f)
	s := store.New(f, 8, 400, []int{3, 4})
	s.Touch(2)
	s.Set(3, over("new"))
	s.Touch(7)
	s.Run(2)
	s.Set(8, over("eight"))
	s.Add(over("more"))
	s.Drop(5)
	s.Drop(3)
	s.Copy().Run(50)
	for _, id := range []int{0, 1, 2, 5, 7, 300, 400, -1} {
		s.Set(id, over("x"))
	}
	nowPages, nowLoose := allOf(f)
	if !slices.Equal(pages, nowPages) || !slices.Equal(loose, nowLoose) || f.Len() != 8 {
		t.Errorf("the file is changed: %v, %v", nowPages, nowLoose)
	}
	for id, text := range map[int]string{2: "a", 3: "b", 5: "d", 7: "loose"} {
		wantText(t, s, id, text)
	}
}

// P8.1: the numbers that are handed in are neither changed nor kept, and what is behind them isn't either.
func TestAvailHandedIn(t *testing.T) {
	room := []int{9, 3, 3, 1, 77, 78}
	avail := room[:4]
	s := store.New(fileOf(), 10, 400, avail)
	wantAdd(t, s, over("x"), 3, api.OK)
	s.Drop(3)
	s.Run(1)
	if !slices.Equal(room, []int{9, 3, 3, 1, 77, 78}) {
		t.Errorf("what was handed in is changed: %v", room)
	}
	for i := range room {
		room[i] = 5
	}
	wantState(t, s, state{dirty: []int{3}, avail: []int{9}, last: 10})
}

// spoil changes all lists of a page, and what is behind them.
func spoil(p api.Page) {
	for _, it := range p.Items[:cap(p.Items)] {
		spoilList(it.Vals, "spoilt")
	}
	spoilList(p.Items, api.Item{Key: "spoilt"})
	spoilList(p.Keys, "spoilt")
	spoilList(p.Kids, -7)
	spoilList(p.Vals, "spoilt")
	for _, f := range p.Free[:cap(p.Free)] {
		spoilList(f.IDs, -7)
	}
	spoilList(p.Free, api.Free{Txn: 99})
}

func spoilList[T any](list []T, with T) {
	list = list[:cap(list)]
	for i := range list {
		list[i] = with
	}
}

// P8.1: a page that was handed in, or answered, may be changed by who has it: what is on the number stays.
func TestPagesAreApart(t *testing.T) {
	for i, p := range goodPages() {
		s := store.New(file.New([]string{"", "", page.Bytes(p)}), 3, 400, nil)
		handed := goodPages()[i]
		wantAdd(t, s, handed, 3, api.OK)
		if !page.Same(handed, p) {
			t.Errorf("Add changed %v", handed)
		}
		spoil(handed)
		wantPage(t, s, 3, p)
		handed = goodPages()[i]
		wantRun(t, s, 1, 4, api.OK)
		wantSet(t, s, 4, handed, api.OK)
		spoil(handed)
		c := s.Copy()
		for id := 2; id <= 4; id++ {
			got, err := s.Read(id)
			if err != nil {
				t.Fatal(err)
			}
			spoil(got)
			wantPage(t, s, id, p)
			wantPage(t, c, id, p)
		}
		wantTouch(t, s, 2, 5, api.OK)
		got, _ := s.Read(5)
		spoil(got)
		wantPage(t, s, 5, p)
		wantPage(t, s, 2, p)
	}
}

// P8.1: the lists that are answered are new memory, their spare room too.
func TestListsAreApart(t *testing.T) {
	s := store.New(fileOf("a", "b", "c", "d", "e", "f"), 8, 400, []int{3, 5, 7})
	s.Run(1)
	s.Drop(2)
	s.Drop(4)
	want := state{dirty: []int{3}, freed: []int{2, 4}, avail: []int{5, 7}, last: 8}
	c := s.Copy()
	for range 2 {
		for _, l := range [][]int{s.Dirty(), s.Freed(), s.Avail(), c.Dirty(), c.Freed(), c.Avail()} {
			spoilList(l, -7)
		}
		wantState(t, s, want)
		wantState(t, c, want)
	}
	avail, freed, dirty := s.Avail(), s.Freed(), s.Dirty()
	s.Drop(6)
	s.Drop(3)
	s.Run(1)
	s.Add(over("x"))
	if !slices.Equal(avail, want.avail) || !slices.Equal(freed, want.freed) || !slices.Equal(dirty, want.dirty) {
		t.Errorf("what was answered is changed: %v %v %v", avail, freed, dirty)
	}
}

// model: the chapter's words, number by number, as plainly as can be.
type model struct {
	kind       [api.MaxPages + 1]byte // 'd'irty, 'f'reed, 'a'vailable, or none of these
	text       [api.MaxPages + 1]string
	old        []string
	last, most int
}

func (m *model) count(kind byte) []int {
	var l []int
	for id, k := range m.kind {
		if k == kind {
			l = append(l, id)
		}
	}
	return l
}

func (m *model) state() state { return state{m.count('d'), m.count('f'), m.count('a'), m.last} }

func (m *model) read(id int) (string, api.Errno) {
	if id < 2 || id >= m.most {
		return "", api.ErrMap
	}
	text := ""
	if m.kind[id] == 'd' {
		text = m.text[id]
	} else if id-2 < len(m.old) {
		text = m.old[id-2]
	}
	if text == "" {
		return "", api.ErrCorrupt
	}
	return text, api.OK
}

func (m *model) run(n int) (int, api.Errno) {
	if n < 1 {
		return 0, api.ErrForm
	}
	if len(m.count('d'))+n > api.MaxDirty {
		return 0, api.ErrTxn
	}
	first := 2
	for first+n <= m.last && !m.all(first, n, 'a') {
		first++
	}
	if first+n > m.last {
		if m.last+n > m.most {
			return 0, api.ErrMap
		}
		first = m.last
		m.last += n
	}
	for id := first; id < first+n; id++ {
		m.kind[id], m.text[id] = 'd', ""
	}
	return first, api.OK
}

func (m *model) all(first, n int, kind byte) bool {
	for id := first; id < first+n; id++ {
		if m.kind[id] != kind {
			return false
		}
	}
	return true
}

func (m *model) add(text string) (int, api.Errno) {
	id, e := m.run(1)
	if e == api.OK {
		m.text[id] = text
	}
	return id, e
}

func (m *model) drop(id int) {
	if id < 2 || id >= m.last {
		return
	}
	switch m.kind[id] {
	case 'd':
		m.kind[id] = 'a'
	case 0:
		m.kind[id] = 'f'
	}
}

func (m *model) touch(id int) (int, api.Errno) {
	if id >= 2 && id < m.last && m.kind[id] == 'd' {
		return id, api.OK
	}
	text, e := m.read(id)
	if e != api.OK {
		return 0, e
	}
	n, e := m.add(text)
	if e == api.OK {
		m.drop(id)
	}
	return n, e
}

func (m *model) set(id int, text string) api.Errno {
	if id < 2 || id >= m.last || m.kind[id] != 'd' {
		return api.ErrForm
	}
	m.text[id] = text
	return api.OK
}

// randomStore gives a store and its model, over the same file.
func randomStore(r *rand.Rand) (*store.Store, *model) {
	m := &model{last: 2 + r.IntN(60), most: 2 + r.IntN(80)}
	if r.IntN(4) == 0 {
		m.last, m.most = 2+r.IntN(399), 300+r.IntN(101)
	}
	for range m.last + r.IntN(3) {
		m.old = append(m.old, string(rune('a'+r.IntN(26))))
	}
	var avail []int
	for range r.IntN(80) {
		id := r.IntN(m.last+6) - 3
		avail = append(avail, id)
		if id >= 2 && id < min(m.last, m.most) {
			m.kind[id] = 'a'
		}
	}
	return store.New(fileOf(m.old...), m.last, m.most, avail), m
}

// stepBoth does one thing with the store and with its model, and holds their answers against each other.
func stepBoth(t *testing.T, r *rand.Rand, s *store.Store, m *model) {
	t.Helper()
	id := r.IntN(m.last+8) - 3
	text := string(rune('A' + r.IntN(26)))
	switch r.IntN(7) {
	case 0, 1:
		want, e := m.add(text)
		wantAdd(t, s, over(text), want, e)
	case 2:
		wantSet(t, s, id, over(text), m.set(id, text))
	case 3, 4:
		want, e := m.touch(id)
		wantTouch(t, s, id, want, e)
	case 5:
		s.Drop(id)
		m.drop(id)
	case 6:
		n := r.IntN(9) - 1
		if r.IntN(10) == 0 {
			n = r.IntN(130)
		}
		want, e := m.run(n)
		wantRun(t, s, n, want, e)
	}
}

// wantLike holds all that can be asked of a store against its model.
func wantLike(t *testing.T, s *store.Store, m *model) {
	t.Helper()
	wantState(t, s, m.state())
	for id := -1; id <= api.MaxPages; id++ {
		if text, e := m.read(id); e == api.OK {
			wantText(t, s, id, text)
		} else {
			wantNoPage(t, s, id, e)
		}
	}
}

// P8.1, P8.2: whatever is done, one behind the other, the store is as the chapter's words say; a copy that is left alone stays as it was.
func TestAgainstModel(t *testing.T) {
	for seed := range uint64(150) {
		r := rand.New(rand.NewPCG(seed, 8))
		s, m := randomStore(r)
		copied, was := s.Copy(), *m
		for range 200 {
			stepBoth(t, r, s, m)
			if r.IntN(40) == 0 {
				copied, was = s.Copy(), *m
			}
			if r.IntN(60) == 0 {
				s, copied, *m, was = copied, s, was, *m
			}
			wantState(t, s, m.state())
		}
		wantLike(t, s, m)
		wantLike(t, copied, &was)
		if t.Failed() {
			t.Fatalf("seed %d", seed)
		}
	}
}
