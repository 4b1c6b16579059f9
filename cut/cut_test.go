package cut_test

import (
	"errors"
	"fmt"
	"math"
	"slices"
	"strings"
	"testing"

	"copyhold/api"
	"copyhold/cut"
	"copyhold/file"
	"copyhold/find"
	"copyhold/page"
	"copyhold/put"
	"copyhold/store"
	"copyhold/tree"
)

const (
	lowest  = math.MinInt
	highest = math.MaxInt
)

func val(key string) api.Item { return api.Item{Key: key, Kind: api.IVal, Val: "v" + key} }

// ofKinds gives items with this key, of each kind, at their least and at their most.
func ofKinds(key string) []api.Item {
	return []api.Item{
		{Key: key, Kind: api.IVal},
		{Key: key, Kind: api.IVal, Val: strings.Repeat("\xff", api.MaxShort)},
		{Key: key, Kind: api.ILong, Run: 200, Len: api.MaxShort + 1},
		{Key: key, Kind: api.ILong, Run: api.MaxPages - 1, Len: api.MaxValue},
		{Key: key, Kind: api.IDup, Vals: []string{"x"}},
		{Key: key, Kind: api.IDup, Vals: []string{"x", "y", "z"}},
		{Key: key, Kind: api.IDup, Dup: 300},
		{Key: key, Kind: api.IRoot},
		{Key: key, Kind: api.IRoot, Root: api.Root{Page: api.MaxPages - 1, Count: 1000000, Flags: api.FDup}},
	}
}

func leafOf(items ...api.Item) api.Page { return api.Page{Kind: api.PLeaf, Items: items} }

// leaf gives a leaf of keys with a blank between.
func leaf(keys string) api.Page {
	p := api.Page{Kind: api.PLeaf}
	for _, key := range strings.Fields(keys) {
		p.Items = append(p.Items, val(key))
	}
	return p
}

// branch gives a branch with these keys behind the first one, a blank between.
func branch(keys string, kids ...int) api.Page {
	return api.Page{Kind: api.PBranch, Keys: append([]string{""}, strings.Fields(keys)...), Kids: kids}
}

// others gives pages of the kinds that no tree has, and what isn't a page at all.
func others() []api.Page {
	return []api.Page{
		{},
		{Kind: api.POver, Text: "x"},
		{Kind: api.PDup, Vals: []string{"a", "b", "c", "d"}},
		{Kind: api.PFree, Free: []api.Free{{Txn: 1, IDs: []int{2, 4}}}},
		{Kind: api.PMeta, Meta: api.Meta{Txn: 4, Last: 12}},
	}
}

// textsOf gives the bytes of a file with these pages, from number 2 on.
func textsOf(pages []api.Page) []string {
	texts := []string{"", ""}
	for _, p := range pages {
		texts = append(texts, page.Bytes(p))
	}
	return texts
}

// stored gives a store over a file of these pages, from number 2 on; all numbers can be seen, and none below the file's end is free.
func stored(pages ...api.Page) *store.Store { return storedAs(pages, 2+len(pages), api.MaxPages, nil) }

// storedAs gives a store over a file of these pages, from number 2 on.
func storedAs(pages []api.Page, last, most int, avail []int) *store.Store {
	return store.New(file.New(textsOf(pages)), last, most, avail)
}

// made gives a store that has these pages, from number 2 on, the first ones of the file, the others dirty.
func made(t *testing.T, ofFile int, pages ...api.Page) *store.Store {
	t.Helper()
	s := stored(pages[:ofFile]...)
	for i, p := range pages[ofFile:] {
		if id, err := s.Add(p); err != nil || id != 2+ofFile+i {
			t.Fatalf("Add: %d, %v", id, err)
		}
	}
	return s
}

// committed gives a store over a file that has what s has; what s freed is free.
func committed(s *store.Store) *store.Store {
	texts := make([]string, s.Last())
	for id := range texts {
		p, _ := s.Read(id)
		texts[id] = page.Bytes(p)
	}
	return store.New(file.New(texts), s.Last(), api.MaxPages, slices.Concat(s.Avail(), s.Freed()))
}

// grown puts keys in, one by one, and gives the new root.
func grown(t *testing.T, s *store.Store, root int, keys []string) int {
	t.Helper()
	for _, key := range keys {
		id, err := put.Put(s, root, val(key))
		if err != nil {
			t.Fatalf("Put(%d, %q): %v", root, key, err)
		}
		root = id
	}
	return root
}

// wantCut takes keys out, one by one, and gives the new root.
func wantCut(t *testing.T, s *store.Store, root int, keys ...string) int {
	t.Helper()
	for _, key := range keys {
		id, err := cut.Cut(s, root, key)
		if err != nil {
			t.Fatalf("Cut(%d, %q): %v", root, key, err)
		}
		wantNone(t, s, id, key)
		root = id
	}
	return root
}

// view tells all that a store's own functions tell of it.
func view(s *store.Store) string {
	var out strings.Builder
	fmt.Fprintln(&out, s.Dirty(), s.Freed(), s.Avail(), s.Last())
	for id := range api.MaxPages {
		if p, err := s.Read(id); err == nil || !errors.Is(err, api.ErrCorrupt) {
			fmt.Fprintln(&out, id, p, err)
		}
	}
	return out.String()
}

// wantError: the answer is that error, nothing is beside it, and the store is as it was.
func wantError(t *testing.T, what string, s *store.Store, root int, key string, want api.Errno) {
	t.Helper()
	was := view(s)
	id, err := cut.Cut(s, root, key)
	var number api.Errno
	if id != 0 || !errors.Is(err, want) || !errors.As(err, &number) || number != want {
		t.Errorf("%s: Cut(%d, %q): %d, %v; not %v", what, root, key, id, err, want)
	}
	if is := view(s); is != was {
		t.Errorf("%s: Cut(%d, %q): the store was %s and is %s", what, root, key, was, is)
	}
}

func wantShape(t *testing.T, s *store.Store, root int, want string) {
	t.Helper()
	if got, err := tree.Shape(s, root); err != nil || got != want || !tree.Right(s, root) {
		t.Errorf("Shape(%d): %s, %v; not %s", root, got, err, want)
	}
}

func wantPage(t *testing.T, s *store.Store, id int, want api.Page) {
	t.Helper()
	if p, err := s.Read(id); err != nil || !page.Same(p, want) {
		t.Errorf("page %d: %v, %v; not %v", id, p, err, want)
	}
}

func wantItem(t *testing.T, s *store.Store, root int, want api.Item) {
	t.Helper()
	if it, err := find.Get(s, root, want.Key); err != nil || !page.Same(leafOf(it), leafOf(want)) {
		t.Errorf("item %q: %v, %v; not %v", want.Key, it, err, want)
	}
}

func wantNone(t *testing.T, s *store.Store, root int, key string) {
	t.Helper()
	if it, err := find.Get(s, root, key); !errors.Is(err, api.ErrNone) {
		t.Errorf("item %q: %v, %v", key, it, err)
	}
}

// wantNumbers: which numbers are dirty, freed and available, and the one behind the last.
func wantNumbers(t *testing.T, s *store.Store, dirty, freed, avail []int, last int) {
	t.Helper()
	if !slices.Equal(s.Dirty(), dirty) || !slices.Equal(s.Freed(), freed) || !slices.Equal(s.Avail(), avail) || s.Last() != last {
		t.Errorf("dirty %v, freed %v, available %v, last %d; not %v, %v, %v, %d", s.Dirty(), s.Freed(), s.Avail(), s.Last(), dirty, freed, avail, last)
	}
}

// chars gives each byte of text by itself.
func chars(text string) []string {
	if text == "" {
		return nil
	}
	return strings.Split(text, "")
}

// backward gives the list the other way round.
func backward(list []string) []string {
	list = slices.Clone(list)
	slices.Reverse(list)
	return list
}

// without gives the list without one of it.
func without(list []string, one string) []string {
	return slices.DeleteFunc(slices.Clone(list), func(x string) bool { return x == one })
}

// upTo gives the numbers from a up to b.
func upTo(a, b int) []int {
	var l []int
	for n := a; n <= b; n++ {
		l = append(l, n)
	}
	return l
}

// P12.1: the last key of a root that is a leaf, whatever its kind: the leaf is Dropped, and the root is 0; what the item has beside the leaf stays.
func TestLastKey(t *testing.T) {
	for _, x := range ofKinds("k") {
		s := stored(leafOf(x))
		if root := wantCut(t, s, 2, "k"); root != 0 {
			t.Errorf("the root is %d", root)
		}
		wantNumbers(t, s, nil, []int{2}, []int{3}, 4)
		s = made(t, 0, leafOf(x))
		if root := wantCut(t, s, 2, "k"); root != 0 {
			t.Errorf("the root is %d", root)
		}
		wantNumbers(t, s, nil, nil, []int{2}, 3)
	}
	for _, key := range []string{"\x00", "a", "12345678", "\xff\xff\xff\xff\xff\xff\xff\xff"} {
		s := storedAs([]api.Page{leaf("x"), leaf(key)}, 9, 9, []int{8, 6})
		if root := wantCut(t, s, 3, key); root != 0 {
			t.Errorf("the root is %d", root)
		}
		wantNumbers(t, s, nil, []int{3}, []int{6, 8}, 9)
		wantPage(t, s, 3, leaf(key))
	}
}

// P12.1: a root that is a leaf: its first key, one between, its last one goes; also a root may have one key alone.
func TestLeaf(t *testing.T) {
	for _, c := range []struct{ keys, key, want string }{
		{"b d", "b", "d"}, {"b d", "d", "b"},
		{"b d f", "b", "d f"}, {"b d f", "d", "b f"}, {"b d f", "f", "b d"},
		{"b d f h", "b", "d f h"}, {"b d f h", "d", "b f h"}, {"b d f h", "f", "b d h"}, {"b d f h", "h", "b d f"},
		{"k k\x00", "k", "k\x00"}, {"k k\x00", "k\x00", "k"},
	} {
		s := stored(leaf(c.keys))
		if root := wantCut(t, s, 2, c.key); root != 3 {
			t.Errorf("the root is %d", root)
		}
		wantPage(t, s, 3, leaf(c.want))
		wantPage(t, s, 2, leaf(c.keys))
		wantNumbers(t, s, []int{3}, []int{2}, nil, 4)
		s = made(t, 0, leaf(c.keys))
		if root := wantCut(t, s, 2, c.key); root != 2 {
			t.Errorf("the root is %d", root)
		}
		wantPage(t, s, 2, leaf(c.want))
		wantNumbers(t, s, []int{2}, nil, nil, 3)
	}
}

// P12.1: an item of each kind goes, from whatever place; those beside it stay as they are, also where they go to another page.
func TestItemsOfEachKind(t *testing.T) {
	for _, one := range ofKinds("b") {
		for _, two := range ofKinds("d") {
			s := stored(leafOf(val("a"), one, val("c"), two))
			wantPage(t, s, wantCut(t, s, 2, "b"), leafOf(val("a"), val("c"), two))
			wantPage(t, s, wantCut(t, s, 2, "d"), leafOf(val("a"), one, val("c")))
			wantPage(t, s, wantCut(t, s, 2, "a"), leafOf(one, val("c"), two))
			s = stored(leafOf(val("a"), one), leafOf(val("c"), two), branch("c", 2, 3))
			wantPage(t, s, wantCut(t, s, 4, "a"), leafOf(one, val("c"), two))
			wantPage(t, s, wantCut(t, s, 4, "b"), leafOf(val("a"), val("c"), two))
			wantPage(t, s, wantCut(t, s, 4, "c"), leafOf(val("a"), one, two))
			wantPage(t, s, wantCut(t, s, 4, "d"), leafOf(val("a"), one, val("c")))
		}
	}
}

// P12.1: the pages that an item has beside its leaf aren't Dropped with it, on the file nor dirty.
func TestPagesOfItemsStay(t *testing.T) {
	over, many := api.Page{Kind: api.POver, Text: "x"}, api.Page{Kind: api.PDup, Vals: []string{"a", "b", "c", "d"}}
	pages := []api.Page{over, over, many, leaf("x"),
		leafOf(api.Item{Key: "d", Kind: api.IDup, Dup: 4}, api.Item{Key: "l", Kind: api.ILong, Run: 2, Len: 101}, api.Item{Key: "r", Kind: api.IRoot, Root: api.Root{Page: 5, Count: 1}})}
	s := stored(pages...)
	if root := wantCut(t, s, 6, "d", "l", "r"); root != 0 {
		t.Errorf("the root is %d", root)
	}
	wantNumbers(t, s, nil, []int{6}, []int{7}, 8)
	s = made(t, 0, pages...)
	if root := wantCut(t, s, 6, "l", "r", "d"); root != 0 {
		t.Errorf("the root is %d", root)
	}
	wantNumbers(t, s, upTo(2, 5), nil, []int{6}, 7)
}

// P12.1: the key goes from the child of the last of the branch's keys that isn't above it; the branch's keys stay as they are, also the one that is cut.
func TestWhichChild(t *testing.T) {
	for _, keys := range []string{"f l q", "g m s", "e\x00 k o\x00"} {
		pages := []api.Page{leaf("b d e"), leaf("g i j"), leaf("m n o"), leaf("s u v"), branch(keys, 2, 3, 4, 5)}
		for _, c := range []struct{ key, want string }{
			{"b", "[(d e)(g i j)(m n o)(s u v)]"}, {"d", "[(b e)(g i j)(m n o)(s u v)]"}, {"e", "[(b d)(g i j)(m n o)(s u v)]"},
			{"g", "[(b d e)(i j)(m n o)(s u v)]"}, {"i", "[(b d e)(g j)(m n o)(s u v)]"}, {"j", "[(b d e)(g i)(m n o)(s u v)]"},
			{"m", "[(b d e)(g i j)(n o)(s u v)]"}, {"n", "[(b d e)(g i j)(m o)(s u v)]"}, {"o", "[(b d e)(g i j)(m n)(s u v)]"},
			{"s", "[(b d e)(g i j)(m n o)(u v)]"}, {"u", "[(b d e)(g i j)(m n o)(s v)]"}, {"v", "[(b d e)(g i j)(m n o)(s u)]"},
		} {
			for ofFile := range len(pages) + 1 {
				s := made(t, ofFile, pages...)
				root := wantCut(t, s, 6, c.key)
				wantShape(t, s, root, c.want)
				if p, err := s.Read(root); err != nil || !slices.Equal(p.Keys, pages[4].Keys) {
					t.Errorf("%q: %q, %v", c.key, p.Keys, err)
				}
			}
		}
	}
}

// P12.1: a leaf that has Least left stays where it is, and the pages beside it aren't touched; the way's are, the root's first.
func TestLeafHasLeast(t *testing.T) {
	for _, c := range []struct {
		key  string
		was  int
		want api.Page // 6: the leaf
		top  api.Page // 5: the root
	}{
		{"b", 2, leaf("d e"), branch("f", 6, 3)}, {"e", 2, leaf("b d"), branch("f", 6, 3)},
		{"g", 3, leaf("i j"), branch("f", 2, 6)}, {"i", 3, leaf("g j"), branch("f", 2, 6)},
	} {
		s := stored(leaf("b d e"), leaf("g i j"), branch("f", 2, 3))
		if root := wantCut(t, s, 4, c.key); root != 5 {
			t.Errorf("the root is %d", root)
		}
		wantPage(t, s, 5, c.top)
		wantPage(t, s, 6, c.want)
		wantNumbers(t, s, []int{5, 6}, []int{c.was, 4}, nil, 7)
	}
}

// P12.1: a leaf that has one fewer, and the one ahead of it (the first child: the one behind it): at most Fan items go to the left one, and the right one is Dropped.
func TestLeavesAreJoined(t *testing.T) {
	for _, c := range []struct {
		low, mid, high string // 2, 3, 4
		key            string
		left, dropped  int // 7: the leaf, 8: the one beside it
		all            string
		top            api.Page // 6: the root, which was 5
		freed          []int
	}{
		{"b d", "g i", "m o", "i", 8, 7, "b d g", branch("l", 8, 4), []int{2, 3, 5}},
		{"b d", "g i", "m o", "g", 8, 7, "b d i", branch("l", 8, 4), []int{2, 3, 5}},
		{"b d e", "g i", "m o", "g", 8, 7, "b d e i", branch("l", 8, 4), []int{2, 3, 5}},
		{"b d e", "g i", "m n o p", "i", 8, 7, "b d e g", branch("l", 8, 4), []int{2, 3, 5}},
		{"b d", "g i", "m o", "b", 7, 8, "d g i", branch("l", 7, 4), []int{2, 3, 5}},
		{"b d", "g i", "m o", "d", 7, 8, "b g i", branch("l", 7, 4), []int{2, 3, 5}},
		{"b d", "g i j", "m o", "b", 7, 8, "d g i j", branch("l", 7, 4), []int{2, 3, 5}},
		{"b d", "g i", "m o", "o", 8, 7, "g i m", branch("f", 2, 8), []int{3, 4, 5}},
		{"b d", "g i", "m o", "m", 8, 7, "g i o", branch("f", 2, 8), []int{3, 4, 5}},
		{"b c d e", "g i j", "m o", "o", 8, 7, "g i j m", branch("f", 2, 8), []int{3, 4, 5}},
	} {
		s := stored(leaf(c.low), leaf(c.mid), leaf(c.high), branch("f l", 2, 3, 4))
		if root := wantCut(t, s, 5, c.key); root != 6 {
			t.Errorf("the root is %d", root)
		}
		wantPage(t, s, 6, c.top)
		wantPage(t, s, c.left, leaf(c.all))
		wantNumbers(t, s, []int{6, c.left}, c.freed, []int{c.dropped}, 9)
		if !tree.Right(s, 6) {
			t.Errorf("%q: not right", c.key)
		}
	}
}

// P12.1: of one more than Fan the left leaf has the first half, rounded up, the right one the rest; its key is the first of these.
func TestLeavesAreHalved(t *testing.T) {
	for _, c := range []struct {
		low, mid, high string // 2, 3, 4
		key            string
		one, two       string   // 7: the leaf, 8: the one beside it
		top            api.Page // 6: the root, which was 5
		freed          []int
	}{
		{"b c d e", "g i", "m o", "i", "e g", "b c d", branch("e l", 8, 7, 4), []int{2, 3, 5}},
		{"b c d e", "g i", "m o", "g", "e i", "b c d", branch("e l", 8, 7, 4), []int{2, 3, 5}},
		{"b d", "g h i j", "m o", "d", "b g h", "i j", branch("i l", 7, 8, 4), []int{2, 3, 5}},
		{"b d", "g h i j", "m o", "b", "d g h", "i j", branch("i l", 7, 8, 4), []int{2, 3, 5}},
		{"b d", "g h i j", "m o", "m", "j o", "g h i", branch("f j", 2, 8, 7), []int{3, 4, 5}},
		{"b d", "g h i j", "m o", "o", "j m", "g h i", branch("f j", 2, 8, 7), []int{3, 4, 5}},
	} {
		s := stored(leaf(c.low), leaf(c.mid), leaf(c.high), branch("f l", 2, 3, 4))
		if root := wantCut(t, s, 5, c.key); root != 6 {
			t.Errorf("the root is %d", root)
		}
		wantPage(t, s, 6, c.top)
		wantPage(t, s, 7, leaf(c.one))
		wantPage(t, s, 8, leaf(c.two))
		wantNumbers(t, s, []int{6, 7, 8}, c.freed, nil, 9)
		if !tree.Right(s, 6) {
			t.Errorf("%q: not right", c.key)
		}
	}
}

// P12.1: where the pages are dirty already, they stay where they are, and what is Dropped is available.
func TestDirtyLeavesAreJoined(t *testing.T) {
	for _, c := range []struct {
		low, mid, key string // 2, 3
		top           api.Page
		pages         map[int]string
		avail         []int
	}{
		{"b d", "g i", "g", branch("l", 2, 4), map[int]string{2: "b d i"}, []int{3}},
		{"b d", "g i", "b", branch("l", 2, 4), map[int]string{2: "d g i"}, []int{3}},
		{"b c d e", "g i", "g", branch("e l", 2, 3, 4), map[int]string{2: "b c d", 3: "e i"}, nil},
		{"b d", "g h i j", "b", branch("i l", 2, 3, 4), map[int]string{2: "d g h", 3: "i j"}, nil},
	} {
		s := made(t, 0, leaf(c.low), leaf(c.mid), leaf("m o"), branch("f l", 2, 3, 4))
		if root := wantCut(t, s, 5, c.key); root != 5 {
			t.Errorf("the root is %d", root)
		}
		wantPage(t, s, 5, c.top)
		for id, keys := range c.pages {
			wantPage(t, s, id, leaf(keys))
		}
		if !slices.Equal(s.Avail(), c.avail) || len(s.Freed()) > 0 || len(s.Dirty())+len(c.avail) != 4 || !tree.Right(s, 5) {
			t.Errorf("%q: dirty %v, freed %v, available %v", c.key, s.Dirty(), s.Freed(), s.Avail())
		}
	}
}

// three gives the pages of a tree three deep, the root 11 of branches 4, 7 and 10, of two leaves each.
func three() []api.Page {
	return []api.Page{
		leaf("b c"), leaf("f g"), branch("e", 2, 3),
		leaf("m n"), leaf("q r"), branch("p", 5, 6),
		leaf("u v"), leaf("x y"), branch("w", 8, 9),
		branch("k t", 4, 7, 10)}
}

// P12.1: a branch that has one child left, and the one ahead of it (the first one: the one behind it): at most Fan children go to the left one; the key above stands for the right one's first. What was Dropped below is taken for what is touched above.
func TestBranchesAreJoined(t *testing.T) {
	for _, c := range []struct {
		key          string
		pages        map[int]api.Page // 12: the root, 13: the branch, 14: the leaf, 15: the one beside it
		freed, avail []int
		dirty        []int
		shape        string
	}{
		{"r", map[int]api.Page{12: branch("t", 14, 10), 14: branch("e k", 2, 3, 15), 15: leaf("m n q")}, []int{4, 5, 6, 7, 11}, []int{13}, []int{12, 14, 15}, "[[(b c)(f g)(m n q)][(u v)(x y)]]"},
		{"m", map[int]api.Page{12: branch("t", 15, 10), 14: leaf("n q r"), 15: branch("e k", 2, 3, 14)}, []int{4, 5, 6, 7, 11}, []int{13}, []int{12, 14, 15}, "[[(b c)(f g)(n q r)][(u v)(x y)]]"},
		{"b", map[int]api.Page{12: branch("t", 13, 10), 13: branch("k p", 14, 5, 6), 14: leaf("c f g")}, []int{2, 3, 4, 7, 11}, []int{15}, []int{12, 13, 14}, "[[(c f g)(m n)(q r)][(u v)(x y)]]"},
		{"g", map[int]api.Page{12: branch("t", 13, 10), 13: branch("k p", 15, 5, 6), 15: leaf("b c f")}, []int{2, 3, 4, 7, 11}, []int{14}, []int{12, 13, 15}, "[[(b c f)(m n)(q r)][(u v)(x y)]]"},
		{"y", map[int]api.Page{12: branch("k", 4, 14), 14: branch("p t", 5, 6, 15), 15: leaf("u v x")}, []int{7, 8, 9, 10, 11}, []int{13}, []int{12, 14, 15}, "[[(b c)(f g)][(m n)(q r)(u v x)]]"},
		{"u", map[int]api.Page{12: branch("k", 4, 15), 14: leaf("v x y"), 15: branch("p t", 5, 6, 14)}, []int{7, 8, 9, 10, 11}, []int{13}, []int{12, 14, 15}, "[[(b c)(f g)][(m n)(q r)(v x y)]]"},
	} {
		s := stored(three()...)
		if root := wantCut(t, s, 11, c.key); root != 12 {
			t.Errorf("the root is %d", root)
		}
		for id, want := range c.pages {
			wantPage(t, s, id, want)
		}
		wantShape(t, s, 12, c.shape)
		wantNumbers(t, s, c.dirty, c.freed, c.avail, 16)
		wantShape(t, s, 11, "[[(b c)(f g)][(m n)(q r)][(u v)(x y)]]")
	}
}

// P12.1: a branch that has Least left stays where it is, and the branches beside it aren't touched.
func TestBranchHasLeast(t *testing.T) {
	pages := []api.Page{
		leaf("b c"), leaf("f g"), leaf("i j"), branch("e h", 2, 3, 4),
		leaf("m n"), leaf("q r"), branch("p", 6, 7), branch("k", 5, 8)}
	s := stored(pages...) // 10: the root, 11: the branch, 12: the leaf, 13: the one beside it
	if root := wantCut(t, s, 9, "j"); root != 10 {
		t.Errorf("the root is %d", root)
	}
	wantPage(t, s, 10, branch("k", 11, 8))
	wantPage(t, s, 11, branch("e", 2, 13))
	wantPage(t, s, 13, leaf("f g i"))
	wantNumbers(t, s, []int{10, 11, 13}, []int{3, 4, 5, 9}, []int{12}, 14)
	wantShape(t, s, 10, "[[(b c)(f g i)][(m n)(q r)]]")
}

// P12.1: of Fan children in all the left branch has all; of one more it has three, and the right one the other two, its first key empty, the one that stood there above it.
func TestBranchesOfFan(t *testing.T) {
	for _, c := range []struct {
		pages               []api.Page
		root                int
		key                 string
		want                map[int]api.Page
		dirty, freed, avail []int
		last                int
		shape, was          string
	}{
		{ // four in all, the one ahead
			[]api.Page{leaf("b c"), leaf("e f"), leaf("g h"), branch("d g", 2, 3, 4), leaf("m n"), leaf("q r"), branch("p", 6, 7), leaf("u v"), leaf("x y"), branch("w", 9, 10), branch("k t", 5, 8, 11)}, 12,
			"r", map[int]api.Page{13: branch("t", 15, 11), 15: branch("d g k", 2, 3, 4, 16), 16: leaf("m n q")},
			[]int{13, 15, 16}, []int{5, 6, 7, 8, 12}, []int{14}, 17,
			"[[(b c)(e f)(g h)(m n q)][(u v)(x y)]]", "[[(b c)(e f)(g h)][(m n)(q r)][(u v)(x y)]]",
		},
		{ // four in all, the one behind
			[]api.Page{leaf("b c"), leaf("e f"), branch("d", 2, 3), leaf("m n"), leaf("q r"), leaf("s t"), branch("p s", 5, 6, 7), leaf("u v"), leaf("x y"), branch("w", 9, 10), branch("k u", 4, 8, 11)}, 12,
			"c", map[int]api.Page{13: branch("u", 14, 11), 14: branch("k p s", 15, 5, 6, 7), 15: leaf("b e f")},
			[]int{13, 14, 15}, []int{2, 3, 4, 8, 12}, []int{16}, 17,
			"[[(b e f)(m n)(q r)(s t)][(u v)(x y)]]", "[[(b c)(e f)][(m n)(q r)(s t)][(u v)(x y)]]",
		},
		{ // five in all, the one ahead
			[]api.Page{leaf("b c"), leaf("e f"), leaf("g h"), leaf("i j"), branch("d g i", 2, 3, 4, 5), leaf("m n"), leaf("q r"), branch("p", 7, 8), branch("k", 6, 9)}, 10,
			"r", map[int]api.Page{11: branch("i", 13, 12), 12: branch("k", 5, 14), 13: branch("d g", 2, 3, 4), 14: leaf("m n q")},
			upTo(11, 14), upTo(6, 10), nil, 15,
			"[[(b c)(e f)(g h)][(i j)(m n q)]]", "[[(b c)(e f)(g h)(i j)][(m n)(q r)]]",
		},
		{ // five in all, the one behind
			[]api.Page{leaf("b c"), leaf("e f"), branch("d", 2, 3), leaf("m n"), leaf("o p"), leaf("q r"), leaf("s t"), branch("o q s", 5, 6, 7, 8), branch("k", 4, 9)}, 10,
			"c", map[int]api.Page{11: branch("q", 12, 14), 12: branch("k o", 13, 5, 6), 13: leaf("b e f"), 14: branch("s", 7, 8)},
			upTo(11, 14), []int{2, 3, 4, 9, 10}, nil, 15,
			"[[(b e f)(m n)(o p)][(q r)(s t)]]", "[[(b c)(e f)][(m n)(o p)(q r)(s t)]]",
		},
	} {
		s := stored(c.pages...)
		if root := wantCut(t, s, c.root, c.key); root != c.root+1 {
			t.Errorf("the root is %d", root)
		}
		for id, want := range c.want {
			wantPage(t, s, id, want)
		}
		wantShape(t, s, c.root+1, c.shape)
		wantNumbers(t, s, c.dirty, c.freed, c.avail, c.last)
		wantShape(t, s, c.root, c.was)
	}
}

// P12.1: a root that is a branch with one child left is Dropped, on the file and dirty, and the child is the root; a root may have two.
func TestRootWithOneChild(t *testing.T) {
	for _, c := range []struct {
		key   string
		root  int // 5: the elder root's, 6: the leaf, 7: the one beside it
		want  string
		avail []int
	}{
		{"b", 6, "d g i", []int{5, 7}},
		{"d", 6, "b g i", []int{5, 7}},
		{"g", 7, "b d i", []int{5, 6}},
		{"i", 7, "b d g", []int{5, 6}},
	} {
		pages := []api.Page{leaf("b d"), leaf("g i"), branch("f", 2, 3)}
		s := stored(pages...)
		if root := wantCut(t, s, 4, c.key); root != c.root {
			t.Errorf("the root is %d", root)
		}
		wantPage(t, s, c.root, leaf(c.want))
		wantNumbers(t, s, []int{c.root}, []int{2, 3, 4}, c.avail, 8)
		wantShape(t, s, 4, "[(b d)(g i)]")
		s = made(t, 0, pages...)
		if root := wantCut(t, s, 4, c.key); root != 2 {
			t.Errorf("the root is %d", root)
		}
		wantPage(t, s, 2, leaf(c.want))
		wantNumbers(t, s, []int{2}, nil, []int{3, 4}, 5)
	}
}

// P12.1: three deep, likewise: the branch that all children are on is the root.
func TestRootOfBranchesWithOneChild(t *testing.T) {
	pages := []api.Page{leaf("b c"), leaf("f g"), branch("e", 2, 3), leaf("m n"), leaf("q r"), branch("p", 5, 6), branch("k", 4, 7)}
	s := stored(pages...) // 9: the root, 10: the branch, 11: the leaf, 12: the one beside it; 11: the branch beside that one
	if root := wantCut(t, s, 8, "r"); root != 11 {
		t.Errorf("the root is %d", root)
	}
	wantPage(t, s, 11, branch("e k", 2, 3, 12))
	wantPage(t, s, 12, leaf("m n q"))
	wantNumbers(t, s, []int{11, 12}, upTo(4, 8), []int{9, 10}, 13)
	wantShape(t, s, 11, "[(b c)(f g)(m n q)]")
	s = made(t, 0, pages...)
	if root := wantCut(t, s, 8, "b"); root != 4 {
		t.Errorf("the root is %d", root)
	}
	wantPage(t, s, 4, branch("k p", 2, 5, 6))
	wantPage(t, s, 2, leaf("c f g"))
	wantNumbers(t, s, []int{2, 4, 5, 6}, nil, []int{3, 7, 8}, 9)
	wantShape(t, s, 4, "[(c f g)(m n)(q r)]")
}

// row: 62 characters, each above the one ahead of it.
const row = "0123456789ABCDEFGHIJKLMNOPQRSTUVWXYZabcdefghijklmnopqrstuvwxyz"

// fourDeep gives the number of a tree's root, and a store over a file with its pages, all of which are in use.
func fourDeep(t *testing.T) (int, *store.Store) {
	t.Helper()
	s := stored()
	root := grown(t, s, 0, chars(row[:41]))
	s = committed(s)
	wantShape(t, s, root, "[[[(0 1 2)(3 4 5)(6 7 8)][(9 A B)(C D E)(F G H)][(I J K)(L M N)(O P Q)]][[(R S T)(U V W)(X Y Z)][(a b c)(d e)]]]")
	return root, s
}

// P12.1: of a tree four deep: what gets too empty is joined from below up, as far as need be.
func TestFourDeep(t *testing.T) {
	for _, c := range []struct{ keys, want string }{
		{"0", "[[[(1 2)(3 4 5)(6 7 8)][(9 A B)(C D E)(F G H)][(I J K)(L M N)(O P Q)]][[(R S T)(U V W)(X Y Z)][(a b c)(d e)]]]"},
		{"01", "[[[(2 3 4 5)(6 7 8)][(9 A B)(C D E)(F G H)][(I J K)(L M N)(O P Q)]][[(R S T)(U V W)(X Y Z)][(a b c)(d e)]]]"},
		{"87", "[[[(0 1 2)(3 4 5 6)][(9 A B)(C D E)(F G H)][(I J K)(L M N)(O P Q)]][[(R S T)(U V W)(X Y Z)][(a b c)(d e)]]]"},
		{"01867", "[[[(2 3 4 5)(9 A B)(C D E)(F G H)][(I J K)(L M N)(O P Q)]][[(R S T)(U V W)(X Y Z)][(a b c)(d e)]]]"},
		{"9ACD", "[[[(0 1 2)(3 4 5)(6 7 8)][(B E)(F G H)][(I J K)(L M N)(O P Q)]][[(R S T)(U V W)(X Y Z)][(a b c)(d e)]]]"},
		{"9ACDF", "[[[(0 1 2)(3 4 5)(6 7 8)][(B E)(G H)][(I J K)(L M N)(O P Q)]][[(R S T)(U V W)(X Y Z)][(a b c)(d e)]]]"},
		{"9ACDFB", "[[[(0 1 2)(3 4 5)(6 7 8)(E G H)][(I J K)(L M N)(O P Q)]][[(R S T)(U V W)(X Y Z)][(a b c)(d e)]]]"},
		{"e", "[[(0 1 2)(3 4 5)(6 7 8)][(9 A B)(C D E)(F G H)][(I J K)(L M N)(O P Q)][(R S T)(U V W)(X Y Z)(a b c d)]]"},
		{"RSe", "[[(0 1 2)(3 4 5)(6 7 8)][(9 A B)(C D E)(F G H)][(I J K)(L M N)(O P Q)][(T U V W)(X Y Z)(a b c d)]]"},
		{"eIJ", "[[(0 1 2)(3 4 5)(6 7 8)][(9 A B)(C D E)(F G H)][(K L M N)(O P Q)][(R S T)(U V W)(X Y Z)(a b c d)]]"},
		{"eIJLMO", "[[(0 1 2)(3 4 5)(6 7 8)][(9 A B)(C D E)(F G H)][(K N)(P Q)][(R S T)(U V W)(X Y Z)(a b c d)]]"},
		{"eIJLMOK", "[[(0 1 2)(3 4 5)(6 7 8)][(9 A B)(C D E)(F G H)(N P Q)][(R S T)(U V W)(X Y Z)(a b c d)]]"},
	} {
		for _, each := range []int{1, 2, 100} {
			root, s := fourDeep(t)
			for keys := range slices.Chunk(chars(c.keys), each) {
				root = wantCut(t, s, root, keys...)
				s = committed(s)
			}
			wantShape(t, s, root, c.want)
		}
	}
}

// mixed gives the list's even places rising, then the odd ones falling, with the midmost ones first.
func mixed(list []string) []string {
	var even, odd []string
	for i, x := range list {
		if i%2 == 0 {
			even = append(even, x)
		} else {
			odd = append(odd, x)
		}
	}
	half := len(even) / 2
	return slices.Concat(even[half:], backward(odd), even[:half])
}

// P12.1, P12.3: keys taken out rising, falling and mixed, from trees one to four deep, until nothing is left: after each of them the tree is right, and has just the other keys; pages of the file, dirty ones, and both.
func TestRows(t *testing.T) {
	for _, n := range []int{1, 2, 3, 4, 5, 8, 13, 14, 27, 40, 41, 62} {
		for _, put := range [][]string{chars(row[:n]), backward(chars(row[:n])), mixed(chars(row[:n]))} {
			for _, keys := range [][]string{chars(row[:n]), backward(chars(row[:n])), mixed(chars(row[:n]))} {
				for _, each := range []int{1, 3, 7, 100} {
					s := stored()
					root, left := grown(t, s, 0, put), chars(row[:n])
					for i, key := range keys {
						if i%each == 0 {
							s = committed(s)
						}
						root = wantCut(t, s, root, key)
						left = without(left, key)
						wantKeys(t, s, root, left)
					}
					if root != 0 || len(s.Dirty()) > 0 || len(s.Avail())+len(s.Freed()) != s.Last()-2 {
						t.Errorf("the root is %d; dirty %v, available %v, freed %v", root, s.Dirty(), s.Avail(), s.Freed())
					}
				}
			}
		}
	}
}

// wantKeys: the tree is right, and has just these keys, with their values.
func wantKeys(t *testing.T, s *store.Store, root int, keys []string) {
	t.Helper()
	wantKeysAs(t, s, root, keys, val)
}

// wantKeysAs: the tree is right, and has just these keys, with these items.
func wantKeysAs(t *testing.T, s *store.Store, root int, keys []string, item func(string) api.Item) {
	t.Helper()
	var want []api.Item
	for _, key := range keys {
		want = append(want, item(key))
	}
	got, err := tree.List(s, root)
	if err != nil || !slices.EqualFunc(got, want, sameItem) || !tree.Right(s, root) {
		t.Fatalf("the tree has %v, %v; not %v", got, err, want)
	}
}

func sameItem(a, b api.Item) bool { return page.Same(leafOf(a), leafOf(b)) }

// wayOf gives the numbers of the pages from the root to the leaf on which key would be.
func wayOf(t *testing.T, s *store.Store, root int, key string) []int {
	t.Helper()
	way := []int{root}
	for {
		p, err := s.Read(way[len(way)-1])
		if err != nil {
			t.Fatal(err)
		}
		if p.Kind == api.PLeaf {
			return way
		}
		at := len(p.Keys)
		for p.Keys[at-1] > key {
			at--
		}
		way = append(way, p.Kids[at-1])
	}
}

func pagesOf(t *testing.T, s *store.Store, root int) []int {
	t.Helper()
	l, err := tree.Pages(s, root)
	if err != nil {
		t.Fatal(err)
	}
	return l
}

// P12.1: where the leaf has enough left, the pages from the root to it are copied, the root first, and freed; all others stay where they are.
func TestPathIsCopied(t *testing.T) {
	for _, key := range chars(row[:39]) {
		root, s := fourDeep(t)
		last, elder, way := s.Last(), pagesOf(t, s, root), wayOf(t, s, root, key)
		top := wantCut(t, s, root, key)
		wantNumbers(t, s, upTo(last, last+3), slices.Sorted(slices.Values(way)), nil, last+4)
		if got := wayOf(t, s, top, key); !slices.Equal(got, upTo(last, last+3)) {
			t.Errorf("the new way is %v", got)
		}
		want := slices.DeleteFunc(slices.Clone(elder), func(id int) bool { return slices.Contains(way, id) })
		if got := pagesOf(t, s, top); !slices.Equal(got, append(want, upTo(last, last+3)...)) {
			t.Errorf("the tree's pages were %v and are %v", elder, got)
		}
	}
}

// P12.1: new numbers are the least that are available, then those from the end on: the way's from the root on, then those of the pages beside it, from below up.
func TestNumbers(t *testing.T) {
	pages := append(three(), make([]api.Page, 4)...) // 12 to 15: free
	for n, want := range []struct {
		root, branch, leaf int
		dirty, avail       []int
		last               int
	}{
		{16, 18, 19, []int{16, 18, 19}, []int{17}, 20},
		{12, 17, 18, []int{12, 17, 18}, []int{16}, 19},
		{12, 16, 17, []int{12, 16, 17}, []int{13}, 18},
		{12, 14, 16, []int{12, 14, 16}, []int{13}, 17},
		{12, 14, 15, []int{12, 14, 15}, []int{13}, 16},
	} {
		s := storedAs(pages, 16, api.MaxPages, upTo(12, 11+n))
		if root := wantCut(t, s, 11, "r"); root != want.root {
			t.Errorf("%d: the root is %d", n, root)
		}
		wantPage(t, s, want.root, branch("t", want.branch, 10))
		wantPage(t, s, want.branch, branch("e k", 2, 3, want.leaf))
		wantPage(t, s, want.leaf, leaf("m n q"))
		wantNumbers(t, s, want.dirty, []int{4, 5, 6, 7, 11}, want.avail, want.last)
	}
}

// P12.1: a tree that was is as it was, for who reads it on the file, and for who reads its root of the same store, while all its keys are taken out.
func TestElderTree(t *testing.T) {
	for _, keys := range [][]string{chars(row[:41]), backward(chars(row[:41])), mixed(chars(row[:41]))} {
		elder, s := fourDeep(t)
		texts := make([]string, s.Last())
		for id := range texts {
			p, _ := s.Read(id)
			texts[id] = page.Bytes(p)
		}
		f := file.New(texts)
		other := store.New(f, len(texts), api.MaxPages, nil)
		was, shape := view(other), "[[[(0 1 2)(3 4 5)(6 7 8)][(9 A B)(C D E)(F G H)][(I J K)(L M N)(O P Q)]][[(R S T)(U V W)(X Y Z)][(a b c)(d e)]]]"
		s = store.New(f, len(texts), api.MaxPages, nil)
		root := elder
		for _, key := range keys {
			root = wantCut(t, s, root, key)
			wantShape(t, s, elder, shape)
			wantShape(t, other, elder, shape)
		}
		if is := view(other); is != was {
			t.Errorf("the file was %s and is %s", was, is)
		}
		if root != 0 || !slices.Equal(s.Freed(), pagesOf(t, other, elder)) {
			t.Errorf("the root is %d, freed are %v", root, s.Freed())
		}
	}
}

// P12.1: what a copy of the store has isn't touched.
func TestCopiesGoTheirWays(t *testing.T) {
	root, s := fourDeep(t)
	root = wantCut(t, s, root, "5", "b")
	c := s.Copy()
	was := view(c)
	wantCut(t, s, root, "c", "d", "e")
	if is := view(c); is != was {
		t.Errorf("the copy was %s and is %s", was, is)
	}
	is := view(s)
	wantCut(t, c, root, "c", "d", "e")
	if view(c) != is {
		t.Error("the same makes another")
	}
}

// P12.2: All of nothing changes nothing.
func TestAllOfNothing(t *testing.T) {
	for _, s := range []*store.Store{stored(), stored(leaf("a b")), made(t, 0, leaf("a b")), storedAs(nil, 2, 2, nil)} {
		was := view(s)
		if err := cut.All(s, 0); err != nil || view(s) != was {
			t.Errorf("All(0): %v; the store was %s and is %s", err, was, view(s))
		}
	}
}

// P12.2: all pages of the tree are Dropped: those of the file are freed, dirty ones available; what hangs elsewhere stays.
func TestAll(t *testing.T) {
	pages := three()
	for ofFile := range len(pages) + 1 {
		s := made(t, ofFile, pages...)
		if err := cut.All(s, 11); err != nil {
			t.Errorf("All: %v", err)
		}
		wantNumbers(t, s, nil, upTo(2, 1+ofFile), upTo(2+ofFile, 11), 12)
		s = made(t, ofFile, pages...)
		if err := cut.All(s, 7); err != nil {
			t.Errorf("All: %v", err)
		}
		gone := []int{5, 6, 7}
		dirty := slices.DeleteFunc(upTo(2+ofFile, 11), func(id int) bool { return slices.Contains(gone, id) })
		freed := slices.DeleteFunc(slices.Clone(gone), func(id int) bool { return id >= 2+ofFile })
		avail := slices.DeleteFunc(slices.Clone(gone), func(id int) bool { return id < 2+ofFile })
		wantNumbers(t, s, dirty, freed, avail, 12)
	}
	s := stored(leaf("a"))
	if err := cut.All(s, 2); err != nil {
		t.Errorf("All: %v", err)
	}
	wantNumbers(t, s, nil, []int{2}, nil, 3)
	wantShape(t, s, 2, "(a)")
}

// P12.2: likewise the pages of long values and of many, not those of a database that hangs there.
func TestAllWithItsPages(t *testing.T) {
	over, many := api.Page{Kind: api.POver, Text: "x"}, api.Page{Kind: api.PDup, Vals: []string{"a", "b", "c", "d"}}
	pages := []api.Page{
		over, over, over, many, leaf("x"), // 2 to 6
		leafOf(api.Item{Key: "d", Kind: api.IDup, Dup: 5}, api.Item{Key: "l", Kind: api.ILong, Run: 2, Len: 201}),
		leafOf(api.Item{Key: "r", Kind: api.IRoot, Root: api.Root{Page: 6, Count: 1}}, api.Item{Key: "s", Kind: api.IDup, Vals: []string{"a"}}),
		branch("m", 7, 8)}
	s := stored(pages...)
	if err := cut.All(s, 9); err != nil {
		t.Errorf("All: %v", err)
	}
	wantNumbers(t, s, nil, []int{2, 3, 4, 5, 7, 8, 9}, nil, 10)
	s = made(t, 0, pages...)
	if err := cut.All(s, 9); err != nil {
		t.Errorf("All: %v", err)
	}
	wantNumbers(t, s, []int{6}, nil, []int{2, 3, 4, 5, 7, 8, 9}, 10)
	s = made(t, 4, pages...)
	if err := cut.All(s, 7); err != nil {
		t.Errorf("All: %v", err)
	}
	wantNumbers(t, s, []int{6, 8, 9}, []int{2, 3, 4, 5}, []int{7}, 10)
	s = stored(leafOf(api.Item{Key: "l", Kind: api.ILong, Run: 398, Len: 1000}, api.Item{Key: "m", Kind: api.IDup, Dup: 3}))
	if err := cut.All(s, 2); err != nil {
		t.Errorf("All: %v", err)
	}
	wantNumbers(t, s, nil, []int{2}, nil, 3) // what isn't in use can't be freed
}

// P12.2: of what Cut and Put made, likewise; all are gone then.
func TestAllOfWhatWasCut(t *testing.T) {
	for _, key := range chars(row[:41]) {
		root, s := fourDeep(t)
		root = wantCut(t, s, root, key)
		root = grown(t, s, root, []string{"+", "+" + key, "~"})
		if err := cut.All(s, root); err != nil {
			t.Errorf("All: %v", err)
		}
		if len(s.Dirty()) > 0 || len(s.Freed())+len(s.Avail()) != s.Last()-2 {
			t.Errorf("dirty %v, freed %v, available %v of %d", s.Dirty(), s.Freed(), s.Avail(), s.Last())
		}
	}
}
