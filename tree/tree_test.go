package tree_test

import (
	"errors"
	"math"
	"slices"
	"strconv"
	"strings"
	"testing"

	"copyhold/api"
	"copyhold/file"
	"copyhold/page"
	"copyhold/store"
	"copyhold/tree"
)

const (
	lowest  = math.MinInt
	highest = math.MaxInt
)

func val(key string) api.Item { return api.Item{Key: key, Kind: api.IVal, Val: "v" + key} }

func long(key string, run, n int) api.Item {
	return api.Item{Key: key, Kind: api.ILong, Run: run, Len: n}
}

func many(key string, vals ...string) api.Item {
	return api.Item{Key: key, Kind: api.IDup, Vals: vals}
}

func manyOn(key string, id int) api.Item { return api.Item{Key: key, Kind: api.IDup, Dup: id} }

func root(key string, id int) api.Item {
	return api.Item{Key: key, Kind: api.IRoot, Root: api.Root{Page: id, Count: 1}}
}

func leafOf(items ...api.Item) api.Page { return api.Page{Kind: api.PLeaf, Items: items} }

// leaf gives a leaf of keys with a blank between.
func leaf(keys string) api.Page {
	p := api.Page{Kind: api.PLeaf}
	for _, key := range strings.Fields(keys) {
		p.Items = append(p.Items, val(key))
	}
	return p
}

// branch gives a branch with these keys behind the first one, a blank between.
func branch(keys string, kids ...int) api.Page {
	return api.Page{Kind: api.PBranch, Keys: append([]string{""}, strings.Fields(keys)...), Kids: kids}
}

var (
	overPage = api.Page{Kind: api.POver, Text: "x"}
	dupPage  = api.Page{Kind: api.PDup, Vals: []string{"a", "b", "c", "d"}}
	freePage = api.Page{Kind: api.PFree, Free: []api.Free{{Txn: 1, IDs: []int{2, 4}}}}
	metaPage = api.Page{Kind: api.PMeta, Meta: api.Meta{Txn: 4, Last: 12}}
	noPage   = api.Page{} // its bytes are none, and so are no page
)

// fileOf gives a file of these pages, from number 2 on.
func fileOf(pages []api.Page) *file.File {
	texts := []string{"", ""}
	for _, p := range pages {
		texts = append(texts, page.Bytes(p))
	}
	return file.New(texts)
}

// stored gives a store over a file of these pages, from number 2 on; all numbers can be seen.
func stored(pages ...api.Page) *store.Store {
	return store.New(fileOf(pages), 2+len(pages), api.MaxPages, nil)
}

// made gives a store that has these pages, from number 2 on, the first ones of the file, the others dirty.
func made(t *testing.T, ofFile int, pages []api.Page) *store.Store {
	t.Helper()
	s := stored(pages[:ofFile]...)
	for i, p := range pages[ofFile:] {
		if id, err := s.Add(p); err != nil || id != 2+ofFile+i {
			t.Fatalf("Add: %d, %v", id, err)
		}
	}
	return s
}

// garden: pages that are grown from shapes, from number 2 on.
type garden struct{ pages []api.Page }

func (g *garden) add(p api.Page) int {
	g.pages = append(g.pages, p)
	return 1 + len(g.pages)
}

// grow adds the pages of the shape that text begins with, children ahead of their parent; it gives the root's number, the tree's first key and the rest of text.
func (g *garden) grow(text string) (id int, first, rest string) {
	if text[0] == '(' {
		keys, rest, _ := strings.Cut(text[1:], ")")
		return g.add(leaf(keys)), strings.Fields(keys)[0], rest
	}
	p := api.Page{Kind: api.PBranch}
	for rest = text[1:]; rest[0] != ']'; {
		var kid int
		var low string
		kid, low, rest = g.grow(rest)
		if len(p.Kids) == 0 {
			first, low = low, ""
		}
		p.Kids, p.Keys = append(p.Kids, kid), append(p.Keys, low)
	}
	return g.add(p), first, rest[1:]
}

// grown gives the pages of a shape, the root the last of them, and its number.
func grown(shape string) ([]api.Page, int) {
	var g garden
	id, _, _ := g.grow(shape)
	return g.pages, id
}

// keysOf gives the keys in a shape, in order.
func keysOf(shape string) []string {
	return strings.Fields(strings.NewReplacer("(", " ", ")", " ", "[", " ", "]", " ").Replace(shape))
}

// full gives the shape of a tree that is so deep, with two keys in a leaf and two children under a branch; the keys go on from n on, rising.
func full(depth int, n *int) string {
	if depth == 1 {
		*n += 2
		return "(" + strconv.Itoa(100000+*n-2) + " " + strconv.Itoa(100000+*n-1) + ")"
	}
	return "[" + full(depth-1, n) + full(depth-1, n) + "]"
}

func upTo(a, b int) []int {
	var l []int
	for n := a; n <= b; n++ {
		l = append(l, n)
	}
	return l
}

func sameItem(a, b api.Item) bool {
	return page.Same(api.Page{Items: []api.Item{a}}, api.Page{Items: []api.Item{b}})
}

func wantItems(t *testing.T, s *store.Store, root int, want []api.Item) {
	t.Helper()
	got, err := tree.List(s, root)
	if err != nil || !slices.EqualFunc(got, want, sameItem) {
		t.Errorf("List(%d): %v, %v; not %v", root, got, err, want)
	}
}

func wantKeys(t *testing.T, s *store.Store, root int, want []string) {
	t.Helper()
	var items []api.Item
	for _, key := range want {
		items = append(items, val(key))
	}
	wantItems(t, s, root, items)
}

func wantShape(t *testing.T, s *store.Store, root int, want string) {
	t.Helper()
	if got, err := tree.Shape(s, root); err != nil || got != want {
		t.Errorf("Shape(%d): %q, %v; not %q", root, got, err, want)
	}
}

func wantPages(t *testing.T, s *store.Store, root int, want ...int) {
	t.Helper()
	if got, err := tree.Pages(s, root); err != nil || !slices.Equal(got, want) {
		t.Errorf("Pages(%d): %v, %v; not %v", root, got, err, want)
	}
}

func wantRight(t *testing.T, what string, s *store.Store, root int, want bool) {
	t.Helper()
	if tree.Right(s, root) != want {
		t.Errorf("%s: Right(%d): %v", what, root, !want)
	}
}

// wantError: List, Shape and Pages answer this error, and nothing beside it; it isn't Right.
func wantError(t *testing.T, what string, s *store.Store, root int, want api.Errno) {
	t.Helper()
	if l, err := tree.List(s, root); len(l) != 0 || !errors.Is(err, want) {
		t.Errorf("%s: List(%d): %v, %v; not %v", what, root, l, err, want)
	}
	if shape, err := tree.Shape(s, root); shape != "" || !errors.Is(err, want) {
		t.Errorf("%s: Shape(%d): %q, %v; not %v", what, root, shape, err, want)
	}
	if l, err := tree.Pages(s, root); len(l) != 0 || !errors.Is(err, want) {
		t.Errorf("%s: Pages(%d): %v, %v; not %v", what, root, l, err, want)
	}
	wantRight(t, what, s, root, false)
}

// P9.1: nothing hangs on root 0, whatever the store has, and that is right.
func TestNothing(t *testing.T) {
	for _, s := range []*store.Store{
		stored(), stored(leaf("a b")), stored(overPage, noPage), store.New(fileOf(nil), 2, 2, nil), store.New(file.New(nil), 400, 400, nil),
	} {
		wantItems(t, s, 0, nil)
		wantShape(t, s, 0, "-")
		wantRight(t, "nothing", s, 0, true)
		wantPages(t, s, 0)
	}
}

// P9.1, P9.2: trees of one to four deep, of dirty pages, of the file's, and of both.
func TestTrees(t *testing.T) {
	for _, shape := range []string{
		"(a)", "(a b)", "(a b c)", "(a b c d)",
		"[(a b)(c d e)]", "[(a b c d)(e f)(g h i)]", "[(a b)(c d)(e f)(g h)]",
		"[[(a b)(c d e)][(f g)(h i)]]",
		"[[(a b)(c d)(e f)][(g h)(i j)][(k l m n)(o p)(q r)(s t)]]",
		"[[[(a b)(c d)][(e f)(g h)]][[(i j)(k l)][(m n)(o p)(q r)]]]",
		"[(\x00 \x00\x00)(12345678 é)(\xff \xff\xff\xff\xff\xff\xff\xff)]",
	} {
		pages, root := grown(shape)
		for _, ofFile := range []int{0, len(pages) / 2, len(pages)} {
			s := made(t, ofFile, pages)
			wantKeys(t, s, root, keysOf(shape))
			wantShape(t, s, root, shape)
			wantRight(t, shape, s, root, true)
			wantPages(t, s, root, upTo(2, root)...)
		}
	}
}

// P9.1: each page of a tree is a root, too; what doesn't hang on it isn't told.
func TestPartsOfATree(t *testing.T) {
	pages, _ := grown("[[(a b)(c d e)][(f)(h i)]]") // leaves 2, 3, their branch 4, leaves 5, 6, their branch 7, the root 8
	s := stored(append(pages, leaf("z"))...)
	for _, c := range []struct {
		root  int
		shape string
		right bool
		pages []int
	}{
		{2, "(a b)", true, []int{2}}, {3, "(c d e)", true, []int{3}}, {4, "[(a b)(c d e)]", true, []int{2, 3, 4}}, {5, "(f)", true, []int{5}},
		{7, "[(f)(h i)]", false, []int{5, 6, 7}}, {8, "[[(a b)(c d e)][(f)(h i)]]", false, upTo(2, 8)}, {9, "(z)", true, []int{9}},
	} {
		wantKeys(t, s, c.root, keysOf(c.shape))
		wantShape(t, s, c.root, c.shape)
		wantRight(t, c.shape, s, c.root, c.right)
		wantPages(t, s, c.root, c.pages...)
	}
}

// P9.1: where pages lie says nothing of the order of items; Pages rise all the same.
func TestPagesInAnyOrder(t *testing.T) {
	s := stored(branch("c e", 5, 3, 4), leaf("c d"), leaf("e f"), leaf("a b"))
	wantKeys(t, s, 2, []string{"a", "b", "c", "d", "e", "f"})
	wantShape(t, s, 2, "[(a b)(c d)(e f)]")
	wantRight(t, "any order", s, 2, true)
	wantPages(t, s, 2, 2, 3, 4, 5)

	s = stored(leaf("a b"), branch("c", 2, 5), branch("e", 3, 8), leaf("c d"), leaf("g h"), leaf("e f"), branch("g", 7, 6))
	wantShape(t, s, 4, "[[(a b)(c d)][(e f)(g h)]]")
	wantRight(t, "any order", s, 4, true)
	wantPages(t, s, 4, upTo(2, 8)...)
}

// P9.1, P9.2: items of each kind are listed as they are; the Pages have the Runs, the page Dup, but not a Root's tree. What is on these isn't looked at.
func TestItemsOfEachKind(t *testing.T) {
	one := []api.Item{val("a"), long("b", 20, 201), many("c", "x", "y"), root("d", 30)}
	two := []api.Item{manyOn("e", 9), root("f", 0), long("g", 5, 13), manyOn("h", 7)}
	pages := []api.Page{leafOf(one...), leafOf(two...), branch("e", 2, 3)}
	for ofFile := range 4 {
		s := made(t, ofFile, pages)
		wantItems(t, s, 4, slices.Concat(one, two))
		wantShape(t, s, 4, "[(a b c d)(e f g h)]")
		wantRight(t, "items", s, 4, true)
		wantPages(t, s, 4, 2, 3, 4, 5, 7, 9, 20, 21, 22)
		wantItems(t, s, 2, one)
		wantPages(t, s, 2, 2, 20, 21, 22)
		wantPages(t, s, 3, 3, 5, 7, 9)
	}
	s := stored(leafOf(many("a", "x"), many("b", "x", "y", "z")), leafOf(root("a", 2), root("b", 2), root("c", 400-1)))
	wantPages(t, s, 2, 2)
	wantRight(t, "many values in the leaf", s, 2, true)
	wantPages(t, s, 3, 3)
	wantRight(t, "roots that are the same", s, 3, true)
}

// P9.1: a page of a Run, of Dup, or of a Root may be of any kind, or none, or one that can't be seen: it isn't read.
func TestPagesBesideTheTree(t *testing.T) {
	items := leafOf(long("a", 3, 100), manyOn("b", 4), manyOn("c", 5), root("d", 6))
	for _, other := range []api.Page{noPage, overPage, dupPage, freePage, metaPage, leaf("a"), branch("k", 2, 2)} {
		s := stored(items, other, other, other, other)
		wantItems(t, s, 2, items.Items)
		wantPages(t, s, 2, 2, 3, 4, 5)
		wantRight(t, "pages beside the tree", s, 2, true)
	}
	s := store.New(fileOf([]api.Page{items}), 3, 3, nil)
	wantItems(t, s, 2, items.Items)
	wantPages(t, s, 2, 2, 3, 4, 5)
	wantRight(t, "pages beside the tree, not to be seen", s, 2, true)
}

// P9.1: how many pages a Run has: as many as Len needs, and no more.
func TestRuns(t *testing.T) {
	for _, c := range []struct{ n, pages int }{
		{13, 1}, {99, 1}, {100, 1}, {101, 2}, {199, 2}, {200, 2}, {201, 3}, {300, 3}, {301, 4}, {899, 9}, {900, 9}, {901, 10}, {999, 10}, {1000, 10},
	} {
		s := stored(leafOf(long("a", 50, c.n)))
		wantPages(t, s, 2, slices.Concat([]int{2}, upTo(50, 49+c.pages))...)
		wantRight(t, "a run", s, 2, true)
		s = stored(leafOf(long("a", 50, c.n), long("b", 50+c.pages, 13), manyOn("c", 49)))
		wantPages(t, s, 2, slices.Concat([]int{2}, upTo(49, 50+c.pages))...)
		wantRight(t, "runs side by side", s, 2, true)
		s = stored(leafOf(long("a", 50, c.n), long("b", 49+c.pages, 13)))
		wantPages(t, s, 2, slices.Concat([]int{2}, upTo(50, 49+c.pages))...)
		wantRight(t, "runs that meet", s, 2, false)
	}
	s := stored(leafOf(long("a", 399, 1000), long("b", 390, 900)))
	wantPages(t, s, 2, slices.Concat([]int{2}, upTo(390, 408))...)
	wantRight(t, "a run past the file", s, 2, true)
}

// P9.1: a tree is at most eight deep; one that is, is right.
func TestEightDeep(t *testing.T) {
	for depth := 1; depth <= 8; depth++ {
		n := 0
		shape := full(depth, &n)
		pages, root := grown(shape)
		s := stored(pages...)
		wantKeys(t, s, root, keysOf(shape))
		wantShape(t, s, root, shape)
		wantRight(t, "full", s, root, true)
		wantPages(t, s, root, upTo(2, root)...)
	}
}

// slanted gives the shape of a tree that is so deep on one side, with a leaf beside that at each branch; all its keys rise.
func slanted(depth int, left bool) string {
	shape := "(m n)"
	for i := range depth - 1 {
		if left {
			beside := "x" + strconv.Itoa(i)
			shape = "[" + shape + "(" + beside + "a " + beside + "b)]"
		} else {
			beside := "c" + strconv.Itoa(9-i)
			shape = "[(" + beside + "a " + beside + "b)" + shape + "]"
		}
	}
	return shape
}

// P9.1: leaves that aren't equally deep are listed all the same, but it isn't right.
func TestNotEquallyDeep(t *testing.T) {
	for _, shape := range []string{
		"[(a b)[(c d)(e f)]]", "[[(a b)(c d)](e f)]", "[[(a b)(c d)](e f)[(g h)(i j)]]", "[(a b)(c d)[(e f)(g h)]]",
		"[[[(a b)(c d)][(e f)(g h)]][(i j)(k l)]]", "[[(a b)(c d)][[(e f)(g h)][(i j)(k l)]]]", "[[(a b)[(c d)(e f)]][(g h)[(i j)(k l)]]]",
		slanted(3, true), slanted(3, false), slanted(8, true), slanted(8, false),
	} {
		pages, root := grown(shape)
		s := stored(pages...)
		wantKeys(t, s, root, keysOf(shape))
		wantShape(t, s, root, shape)
		wantPages(t, s, root, upTo(2, root)...)
		wantRight(t, shape, s, root, false)
	}
}

// P9.1: one deeper than eight is corrupt, whichever child is it.
func TestNineDeep(t *testing.T) {
	for _, left := range []bool{true, false} {
		pages, root := grown(slanted(9, left))
		wantError(t, "nine deep", stored(pages...), root, api.ErrCorrupt)
		pages, root = grown(slanted(10, left))
		wantError(t, "ten deep", stored(pages...), root, api.ErrCorrupt)
	}
	pages := []api.Page{leaf("a b")}
	for i := range 20 {
		pages = append(pages, branch("x y z", 2+i, 2+i, 2+i, 2+i))
	}
	s := stored(pages...)
	l, err := tree.List(s, 9)
	if err != nil || len(l) != 2<<14 {
		t.Errorf("eight deep, the same over and over: %d items, %v", len(l), err)
	}
	wantPages(t, s, 9, upTo(2, 9)...)
	wantRight(t, "eight deep, the same over and over", s, 9, false)
	for root := 10; root <= 22; root++ {
		wantError(t, "nine deep, the same over and over", s, root, api.ErrCorrupt)
	}
}

// P9.1: a page that is too deep, and that the store can't give, is the store's error, which the chapter names first.
func TestNinthNotToBeSeen(t *testing.T) {
	pages := []api.Page{branch("k", 10, 10)}
	for i := range 7 {
		pages = append(pages, branch("k", 2+i, 2+i))
	}
	s := store.New(fileOf(pages), 10, 10, nil)
	wantError(t, "the ninth can't be seen", s, 9, api.ErrMap)
	s = store.New(fileOf(pages), 10, 11, nil)
	wantError(t, "the ninth is none", s, 9, api.ErrCorrupt)
}

// P9.1: pages that come back to themselves are deeper than any.
func TestCycles(t *testing.T) {
	for what, s := range map[string]*store.Store{
		"itself":                 stored(branch("k", 2, 2)),
		"itself, first":          stored(branch("k", 2, 3), leaf("m n")),
		"itself, last":           stored(branch("k", 3, 2), leaf("a b")),
		"itself, in the midst":   stored(branch("g m", 3, 2, 4), leaf("a b"), leaf("m n")),
		"each other":             stored(branch("k", 4, 3), branch("m", 5, 2), leaf("a b"), leaf("k l")),
		"three of them":          stored(branch("k", 5, 3), branch("m", 5, 4), branch("p", 5, 2), leaf("a b")),
		"all the children":       stored(branch("b c d", 3, 3, 3, 3), branch("b c d", 2, 2, 2, 2)),
		"the root's grandfather": stored(branch("k", 3, 3), branch("k", 4, 4), branch("k", 2, 2)),
	} {
		wantError(t, what, s, 2, api.ErrCorrupt)
	}
}

// P9.1: each page but the root has Least at least.
func TestLeast(t *testing.T) {
	for shape, right := range map[string]bool{
		"(a)": true, "(a b)": true,
		"[(a)(c d)]": false, "[(a b)(c)]": false, "[(a b)(c)(e f)]": false, "[(a b)(c d)(e f)(g)]": false, "[(a)(b)]": false,
		"[(a b)(c d)]": true, "[(a b)(c d)(e f)(g h)]": true,
		"[[(a)(c d)][(e f)(g h)]]": false, "[[(a b)(c)][(e f)(g h)]]": false, "[[(a b)(c d)][(e)(g h)]]": false, "[[(a b)(c d)][(e f)(g)]]": false,
		"[[(a b)(c d)][(e f)(g h)]]": true,
	} {
		pages, root := grown(shape)
		s := stored(pages...)
		wantRight(t, shape, s, root, right)
		wantShape(t, s, root, shape)
		wantKeys(t, s, root, keysOf(shape))
	}
}

// P9.1: of two leaves: the keys of the first one lie below Keys[1], those of the second one from it on.
func TestKeysOfLeaves(t *testing.T) {
	for _, c := range []struct {
		first, key, second string
		right              bool
	}{
		{"b d", "f", "f h", true},
		{"b d", "e", "f h", true},
		{"b d", "d\x00", "f h", true},
		{"b d", "d", "f h", false},
		{"b d", "c", "f h", false},
		{"b d", "a", "f h", false},
		{"b d", "f\x00", "f h", false},
		{"b d", "g", "f h", false},
		{"b d", "z", "f h", false},
		{"b f", "f", "f h", false},
		{"b g", "f", "f h", false},
		{"f h", "f", "b d", false},
		{"b d", "f", "b d", false},
		{"b c d e", "f", "f g h i", true},
		{"b c d f", "f", "f g h i", false},
		{"b c d e", "f", "e g h i", false},
		{"k kk", "kkk", "kkkk l", true},
		{"k kkk", "kkk", "kkkk l", false},
		{"\x00 \x01", "\xff", "\xff \xff\xff", true},
		{"\x00 \xff", "\xff", "\xff \xff\xff", false},
		{"\xff \xff\xff", "\x00", "\x00 \x01", false},
	} {
		s := stored(leaf(c.first), leaf(c.second), branch(c.key, 2, 3))
		wantRight(t, c.first+", "+c.key+", "+c.second, s, 4, c.right)
		wantKeys(t, s, 4, keysOf(c.first+" "+c.second))
		wantShape(t, s, 4, "[("+c.first+")("+c.second+")]")
		wantPages(t, s, 4, 2, 3, 4)
	}
}

// three gives a tree of three deep: four leaves, numbers 2 to 5, two branches with these keys, 6 and 7, and the root with that one, 8.
func three(a, b, c, d, left, key, right string) *store.Store {
	return stored(leaf(a), leaf(b), leaf(c), leaf(d), branch(left, 2, 3), branch(right, 4, 5), branch(key, 6, 7))
}

// P9.1: a branch's first child has the parent's own bound below, its last one that above; its keys, too, lie between them.
func TestKeysUnderBranches(t *testing.T) {
	for _, c := range []struct {
		a, b, c, d       string
		left, key, right string
		good             bool
	}{
		{"b c", "e f", "h i", "k l", "e", "h", "k", true},
		{"b c", "e f", "h i", "k l", "d", "g", "j", true},
		{"b c", "e f", "h i", "k l", "d", "f\x00", "i\x00", true},
		{"b c", "e f", "h i", "k l", "d", "f", "j", false},     // the last key below is at the root's key
		{"b c", "e f", "h i", "k l", "d", "ef", "j", false},    // it is above that
		{"b c", "e z", "h i", "k l", "d", "g", "j", false},     // likewise, above all
		{"b c", "e f", "h i", "k l", "d", "h\x00", "j", false}, // the first key behind is below the root's key
		{"b c", "e f", "a i", "k l", "d", "g", "j", false},     // likewise, below all
		{"b g", "e f", "h i", "k l", "d", "g", "j", false},     // the first leaf's last key is at its branch's key, and at the root's
		{"b c", "e f", "h i", "g l", "d", "g", "g", false},     // the right branch's key is the root's
		{"b c", "e f", "h i", "k l", "d", "g", "a", false},     // it is below the root's
		{"b c", "e f", "h i", "k l", "d", "g", "z", false},     // it is above all
		{"b c", "e f", "h i", "k l", "g", "g", "j", false},     // the left branch's key is the root's
		{"b c", "z zz", "h i", "k l", "z", "g", "j", false},    // it is above the root's
		{"b c", "e f", "h i", "k l", "d", "z", "j", false},
		{"b c", "e f", "h i", "k l", "d", "a", "j", false},
		{"h i", "k l", "b c", "e f", "k", "h", "e", false}, // the two are the wrong way round
	} {
		s := three(c.a, c.b, c.c, c.d, c.left, c.key, c.right)
		wantRight(t, strings.Join([]string{c.a, c.left, c.b, c.key, c.c, c.right, c.d}, ", "), s, 8, c.good)
		if len(keysOf(c.a+" "+c.b+" "+c.c+" "+c.d)) != 8 {
			t.Error("not eight keys")
		}
		wantShape(t, s, 8, "[[("+c.a+")("+c.b+")][("+c.c+")("+c.d+")]]")
		wantPages(t, s, 8, upTo(2, 8)...)
	}
}

// P9.1: the bounds of the root's children hold four deep, on both sides of a key.
func TestKeysFarBelow(t *testing.T) {
	n := 0
	shape := full(4, &n) // leaves 2, 3, 5, 6, 9, 10, 12, 13
	pages, root := grown(shape)
	at := func(id int) *api.Page { return &pages[id-2] }
	wantRight(t, "four deep", stored(pages...), root, true)
	key := pages[root-2].Keys[1]

	at(6).Items[1].Key = key + "~"
	wantRight(t, "the left half's last key, above the root's", stored(pages...), root, false)
	at(6).Items[1].Key = key
	wantRight(t, "the left half's last key, at the root's", stored(pages...), root, false)
	at(6).Items[1].Key = key[:5] + "7~"
	wantRight(t, "the left half's last key, below the root's", stored(pages...), root, true)

	at(9).Items[0].Key = key[:5] + "7\x7f"
	wantRight(t, "the right half's first key, below the root's", stored(pages...), root, false)
	at(9).Items[0].Key = key
	wantRight(t, "the right half's first key, at the root's", stored(pages...), root, true)
}

// P9.1: no page is there twice, of the tree's, of the Runs and of Dup; the Pages have it once.
func TestTwice(t *testing.T) {
	for _, c := range []struct {
		what  string
		s     *store.Store
		root  int
		right bool
		pages []int
	}{
		{"a leaf", stored(leaf("a b"), branch("c", 2, 2)), 3, false, []int{2, 3}},
		{"a leaf of three", stored(leaf("a b"), leaf("c d"), branch("c e", 2, 3, 2)), 4, false, []int{2, 3, 4}},
		{"a leaf under two branches", stored(leaf("a b"), leaf("c d"), leaf("e f"), branch("c", 2, 3), branch("e", 3, 4), branch("d", 5, 6)), 7, false, upTo(2, 7)},
		{"a branch", stored(leaf("a b"), leaf("c d"), branch("c", 2, 3), branch("e", 4, 4)), 5, false, upTo(2, 5)},
		{"a run on its own leaf", stored(leafOf(long("a", 2, 13))), 2, false, []int{2}},
		{"a run that ends on its own leaf", stored(overPage, overPage, leafOf(long("a", 2, 201))), 4, false, []int{2, 3, 4}},
		{"a run that ends ahead of its own leaf", stored(overPage, overPage, leafOf(long("a", 2, 200))), 4, true, []int{2, 3, 4}},
		{"a run behind its own leaf", stored(leafOf(long("a", 3, 1000))), 2, true, upTo(2, 12)},
		{"a run on the root", stored(leafOf(long("a", 4, 13), val("b")), leaf("c d"), branch("c", 2, 3)), 4, false, []int{2, 3, 4}},
		{"a run on the leaf ahead", stored(leaf("a b"), leafOf(val("c"), long("d", 2, 13)), branch("c", 2, 3)), 4, false, []int{2, 3, 4}},
		{"a run on the leaf behind", stored(leafOf(val("a"), long("b", 3, 13)), leaf("c d"), branch("c", 2, 3)), 4, false, []int{2, 3, 4}},
		{"two runs the same", stored(leafOf(long("a", 9, 13), long("b", 9, 13))), 2, false, []int{2, 9}},
		{"two runs that meet", stored(leafOf(long("a", 9, 201), long("b", 11, 13))), 2, false, []int{2, 9, 10, 11}},
		{"two runs that meet, the other way", stored(leafOf(long("a", 11, 13), long("b", 9, 201))), 2, false, []int{2, 9, 10, 11}},
		{"a run within a run", stored(leafOf(long("a", 9, 1000), long("b", 13, 101))), 2, false, slices.Concat([]int{2}, upTo(9, 18))},
		{"two runs side by side", stored(leafOf(long("a", 9, 200), long("b", 11, 13))), 2, true, []int{2, 9, 10, 11}},
		{"runs of two leaves that meet", stored(leafOf(val("a"), long("b", 9, 101)), leafOf(long("c", 10, 101), val("d")), branch("c", 2, 3)), 4, false, []int{2, 3, 4, 9, 10, 11}},
		{"runs of two leaves side by side", stored(leafOf(val("a"), long("b", 9, 101)), leafOf(long("c", 11, 101), val("d")), branch("c", 2, 3)), 4, true, []int{2, 3, 4, 9, 10, 11, 12}},
		{"a page Dup, its own leaf", stored(leafOf(manyOn("a", 2))), 2, false, []int{2}},
		{"a page Dup, the root", stored(leaf("a b"), leafOf(manyOn("c", 4), val("d")), branch("c", 2, 3)), 4, false, []int{2, 3, 4}},
		{"a page Dup, the leaf ahead", stored(leaf("a b"), leafOf(manyOn("c", 2), val("d")), branch("c", 2, 3)), 4, false, []int{2, 3, 4}},
		{"a page Dup, the leaf behind", stored(leafOf(manyOn("a", 3), val("b")), leaf("c d"), branch("c", 2, 3)), 4, false, []int{2, 3, 4}},
		{"two pages Dup the same", stored(leafOf(manyOn("a", 9), manyOn("b", 9))), 2, false, []int{2, 9}},
		{"pages Dup of two leaves, the same", stored(leafOf(val("a"), manyOn("b", 9)), leafOf(val("c"), manyOn("d", 9)), branch("c", 2, 3)), 4, false, []int{2, 3, 4, 9}},
		{"two pages Dup", stored(leafOf(manyOn("a", 9), manyOn("b", 8))), 2, true, []int{2, 8, 9}},
		{"a page Dup in a run", stored(leafOf(long("a", 9, 201), manyOn("b", 11))), 2, false, []int{2, 9, 10, 11}},
		{"a page Dup ahead, in a run", stored(leafOf(manyOn("a", 9), long("b", 9, 201))), 2, false, []int{2, 9, 10, 11}},
		{"a page Dup behind a run", stored(leafOf(long("a", 9, 201), manyOn("b", 12))), 2, true, []int{2, 9, 10, 11, 12}},
		{"a Root of its own leaf", stored(leafOf(root("a", 2), root("b", 2))), 2, true, []int{2}},
	} {
		wantRight(t, c.what, c.s, c.root, c.right)
		wantPages(t, c.s, c.root, c.pages...)
	}
}

// P9.1: roots that may not be are the store's error; a number that it can see, and on which nothing is, is corrupt.
func TestWrongRoots(t *testing.T) {
	pages := []api.Page{leaf("a b"), leaf("c d"), branch("c", 2, 3)}
	s := store.New(fileOf(pages), 5, 9, nil)
	for _, root := range []int{lowest, lowest + 1, -400, -2, -1, 1, 9, 10, 399, 400, 401, highest - 1, highest} {
		wantError(t, "a wrong root", s, root, api.ErrMap)
	}
	for _, root := range []int{5, 8} {
		wantError(t, "a root that is none", s, root, api.ErrCorrupt)
	}
	s = stored(pages...)
	for _, root := range []int{5, 6, 398, 399} {
		wantError(t, "a root that is none", s, root, api.ErrCorrupt)
	}
	wantError(t, "a wrong root", s, 400, api.ErrMap)
	wantError(t, "a store that sees nothing", store.New(fileOf(pages), 5, 2, nil), 2, api.ErrMap)
}

// P9.1: a page of another Kind, or bytes that are no page, as a root, and as a first, a middle, a last child, and far below.
func TestOtherKinds(t *testing.T) {
	for _, other := range []api.Page{noPage, overPage, dupPage, freePage, metaPage} {
		what := "kind " + strconv.Itoa(other.Kind)
		s := stored(other, leaf("a b"), leaf("c d"), branch("a", 2, 3), branch("c", 3, 2), branch("b c", 3, 2, 4), branch("c", 3, 4), branch("e", 8, 5), branch("e", 5, 8))
		wantRight(t, what, s, 8, true)
		for _, root := range []int{2, 5, 6, 7, 9, 10} {
			wantError(t, what, s, root, api.ErrCorrupt)
		}
		made := stored()
		for _, p := range []api.Page{leaf("a b"), other, branch("c", 2, 3)} {
			if page.Is(p) {
				made.Add(p)
			} else {
				made.Run(1) // a number that isn't Set yet
			}
		}
		wantError(t, what+", dirty", made, 3, api.ErrCorrupt)
		wantError(t, what+", dirty", made, 4, api.ErrCorrupt)
		wantShape(t, made, 2, "(a b)")
	}
}

// P9.1: bytes that were a page, but for one of them, are corrupt.
func TestBrokenBytes(t *testing.T) {
	good := []string{"", "", page.Bytes(leaf("a b")), page.Bytes(leaf("c d")), page.Bytes(branch("c", 2, 3))}
	for id := 2; id <= 4; id++ {
		for _, bad := range []string{"", good[id][:len(good[id])-1], good[id] + "\x00", good[id][1:], strings.Replace(good[id], "c", "x", 1), "PLeaf"} {
			if bad == good[id] {
				continue
			}
			texts := slices.Clone(good)
			texts[id] = bad
			wantError(t, "page "+strconv.Itoa(id)+" is broken", store.New(file.New(texts), 5, 400, nil), 4, api.ErrCorrupt)
		}
	}
}

// P9.1: a number of Run that isn't Set yet is corrupt, as a root and as a child, though the file has a leaf there; once it is Set it counts.
func TestNotSetYet(t *testing.T) {
	s := store.New(fileOf([]api.Page{leaf("a b"), leaf("c d"), branch("c", 2, 3)}), 5, 400, []int{3})
	wantRight(t, "ahead of Run", s, 4, true)
	if id, err := s.Run(1); id != 3 || err != nil {
		t.Fatalf("Run: %d, %v", id, err)
	}
	wantError(t, "not Set yet", s, 3, api.ErrCorrupt)
	wantError(t, "a child not Set yet", s, 4, api.ErrCorrupt)
	if err := s.Set(3, leaf("x y z")); err != nil {
		t.Fatal(err)
	}
	wantKeys(t, s, 4, []string{"a", "b", "x", "y", "z"})
	wantShape(t, s, 4, "[(a b)(x y z)]")
	wantRight(t, "Set", s, 4, true)
}

// P9.1: the error is the one that is met first: a page's ahead of its children's, one child's, with all that hangs on it, ahead of the next one's.
func TestFirstError(t *testing.T) {
	const unseen = 390 // from the store's most on
	for _, c := range []struct {
		what  string
		pages []api.Page
		want  api.Errno
	}{
		{"first child unseen, second corrupt", []api.Page{branch("k", unseen, 3), noPage}, api.ErrMap},
		{"first child corrupt, second unseen", []api.Page{branch("k", 3, unseen), noPage}, api.ErrCorrupt},
		{"first child of another kind, second unseen", []api.Page{branch("k", 3, unseen), overPage}, api.ErrCorrupt},
		{"first good, then unseen, then corrupt", []api.Page{branch("k m", 4, unseen, 3), noPage, leaf("a b")}, api.ErrMap},
		{"first good, then corrupt, then unseen", []api.Page{branch("k m", 4, 3, unseen), noPage, leaf("a b")}, api.ErrCorrupt},
		{"under the first child unseen, the second corrupt", []api.Page{branch("k", 4, 3), noPage, branch("b", 5, unseen), leaf("a b")}, api.ErrMap},
		{"under the first child corrupt, the second unseen", []api.Page{branch("k", 4, unseen), noPage, branch("b", 5, 3), leaf("a b")}, api.ErrCorrupt},
		{"the second corrupt, and the third's child unseen", []api.Page{branch("k m", 5, 3, 4), dupPage, branch("b", unseen, unseen), leaf("a b")}, api.ErrCorrupt},
		{"the second's child unseen, the third corrupt", []api.Page{branch("k m", 5, 4, 3), dupPage, branch("b", 5, unseen), leaf("a b")}, api.ErrMap},
		{"too deep under the first, the second unseen", []api.Page{branch("k", 2, unseen)}, api.ErrCorrupt},
		{"the first unseen, too deep under the second", []api.Page{branch("k", unseen, 2)}, api.ErrMap},
		{"too deep under the second, the third unseen", []api.Page{branch("k m", 3, 2, unseen), leaf("a b")}, api.ErrCorrupt},
		{"keys that may not be, and then unseen", []api.Page{branch("b", 3, unseen), leaf("x y")}, api.ErrMap},
		{"a page twice, and then unseen", []api.Page{branch("c d", 3, 3, unseen), leaf("a b")}, api.ErrMap},
		{"too few, and then corrupt", []api.Page{branch("b", 3, 4), leaf("a"), freePage}, api.ErrCorrupt},
	} {
		s := store.New(fileOf(c.pages), 300, unseen, nil)
		wantError(t, c.what, s, 2, c.want)
	}
}

// state: all that a store tells of its numbers, and each of its pages.
type state struct {
	dirty, freed, avail []int
	last                int
	pages               []api.Page
}

func stateOf(s *store.Store) state {
	was := state{dirty: s.Dirty(), freed: s.Freed(), avail: s.Avail(), last: s.Last()}
	for id := range api.MaxPages {
		p, _ := s.Read(id)
		was.pages = append(was.pages, p)
	}
	return was
}

func (a state) same(b state) bool {
	return slices.Equal(a.dirty, b.dirty) && slices.Equal(a.freed, b.freed) && slices.Equal(a.avail, b.avail) && a.last == b.last && slices.EqualFunc(a.pages, b.pages, page.Same)
}

// P9.1: no call changes the store, whether it tells an error or none; the same call answers the same again.
func TestStoreIsNeverChanged(t *testing.T) {
	pages := []api.Page{leafOf(val("a"), long("b", 7, 201)), leafOf(manyOn("c", 6), many("d", "x")), branch("c", 2, 3), branch("k", 5, 2), dupPage}
	s := store.New(fileOf(pages), 10, 399, []int{8, 9})
	s.Touch(3)
	s.Run(2)
	s.Drop(7)
	was := stateOf(s)
	for range 2 {
		for _, root := range []int{lowest, -1, 0, 1, 2, 3, 4, 5, 6, 7, 8, 9, 10, 11, 12, 398, 399, 400, highest} {
			tree.List(s, root)
			tree.Shape(s, root)
			tree.Right(s, root)
			tree.Pages(s, root)
		}
		if !stateOf(s).same(was) {
			t.Error("the store is changed")
		}
		wantShape(t, s, 4, "[(a b)(c d)]")
		wantPages(t, s, 4, 2, 3, 4, 6, 7, 8, 9)
		wantRight(t, "left alone", s, 4, true)
	}
}

// P9.1: what is answered is new memory, its spare room too: who has it may change it.
func TestAnswersAreApart(t *testing.T) {
	one := leafOf(many("a", "x", "y"), manyOn("b", 9), many("c", "x"))
	two := leafOf(many("d", "x", "y", "z"), val("e"))
	s := made(t, 1, []api.Page{one, two, branch("d", 2, 3), branch("d", 3, 3)})
	want := slices.Concat(one.Items, two.Items)
	for range 2 {
		l, err := tree.List(s, 4)
		if err != nil {
			t.Fatal(err)
		}
		for i, it := range l {
			if !sameItem(it, want[i]) {
				t.Errorf("item %d shares its values with one ahead of it", i)
			}
			spoil(it.Vals, "spoilt")
		}
		spoil(l, api.Item{})
		wantItems(t, s, 4, want)
		row, err := tree.Pages(s, 4)
		if err != nil {
			t.Fatal(err)
		}
		spoil(row, -7)
		wantPages(t, s, 4, 2, 3, 4, 9)
	}
	l, _ := tree.List(s, 5) // the same leaf, twice
	spoil(l[0].Vals, "spoilt")
	if len(l) != 4 || !sameItem(l[2], two.Items[0]) {
		t.Errorf("items of a leaf that is there twice share their values: %v", l)
	}
}

// spoil changes a list, and what is behind it.
func spoil[T any](list []T, with T) {
	list = list[:cap(list)]
	for i := range list {
		list[i] = with
	}
}
