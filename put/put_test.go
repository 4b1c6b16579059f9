package put_test

import (
	"errors"
	"math"
	"slices"
	"strings"
	"testing"

	"copyhold/api"
	"copyhold/file"
	"copyhold/find"
	"copyhold/page"
	"copyhold/put"
	"copyhold/store"
	"copyhold/tree"
)

const (
	lowest  = math.MinInt
	highest = math.MaxInt
)

func val(key string) api.Item { return api.Item{Key: key, Kind: api.IVal, Val: "v" + key} }

// ofKinds gives items with this key, of each kind, at their least and at their most.
func ofKinds(key string) []api.Item {
	return []api.Item{
		{Key: key, Kind: api.IVal},
		{Key: key, Kind: api.IVal, Val: strings.Repeat("\xff", api.MaxShort)},
		{Key: key, Kind: api.ILong, Run: 200, Len: api.MaxShort + 1},
		{Key: key, Kind: api.ILong, Run: api.MaxPages - 1, Len: api.MaxValue},
		{Key: key, Kind: api.IDup, Vals: []string{"x"}},
		{Key: key, Kind: api.IDup, Vals: []string{"x", "y", "z"}},
		{Key: key, Kind: api.IDup, Dup: 300},
		{Key: key, Kind: api.IRoot},
		{Key: key, Kind: api.IRoot, Root: api.Root{Page: api.MaxPages - 1, Count: 1000000, Flags: api.FDup}},
	}
}

func leafOf(items ...api.Item) api.Page { return api.Page{Kind: api.PLeaf, Items: items} }

// leaf gives a leaf of keys with a blank between.
func leaf(keys string) api.Page {
	p := api.Page{Kind: api.PLeaf}
	for _, key := range strings.Fields(keys) {
		p.Items = append(p.Items, val(key))
	}
	return p
}

// branch gives a branch with these keys behind the first one, a blank between.
func branch(keys string, kids ...int) api.Page {
	return api.Page{Kind: api.PBranch, Keys: append([]string{""}, strings.Fields(keys)...), Kids: kids}
}

// others gives pages of the kinds that no tree has, and what isn't a page at all.
func others() []api.Page {
	return []api.Page{
		{},
		{Kind: api.POver, Text: "x"},
		{Kind: api.PDup, Vals: []string{"a", "b", "c", "d"}},
		{Kind: api.PFree, Free: []api.Free{{Txn: 1, IDs: []int{2, 4}}}},
		{Kind: api.PMeta, Meta: api.Meta{Txn: 4, Last: 12}},
	}
}

// textsOf gives the bytes of a file with these pages, from number 2 on.
func textsOf(pages []api.Page) []string {
	texts := []string{"", ""}
	for _, p := range pages {
		texts = append(texts, page.Bytes(p))
	}
	return texts
}

// stored gives a store over a file of these pages, from number 2 on; all numbers can be seen, and none below the file's end is free.
func stored(pages ...api.Page) *store.Store { return storedAs(pages, 2+len(pages), api.MaxPages, nil) }

// storedAs gives a store over a file of these pages, from number 2 on.
func storedAs(pages []api.Page, last, most int, avail []int) *store.Store {
	return store.New(file.New(textsOf(pages)), last, most, avail)
}

// made gives a store that has these pages, from number 2 on, the first ones of the file, the others dirty.
func made(t *testing.T, ofFile int, pages ...api.Page) *store.Store {
	t.Helper()
	s := stored(pages[:ofFile]...)
	for i, p := range pages[ofFile:] {
		if id, err := s.Add(p); err != nil || id != 2+ofFile+i {
			t.Fatalf("Add: %d, %v", id, err)
		}
	}
	return s
}

// committed gives a store over a file that has what s has; what s freed is free.
func committed(s *store.Store) *store.Store {
	texts := make([]string, s.Last())
	for id := range texts {
		p, _ := s.Read(id)
		texts[id] = page.Bytes(p)
	}
	return store.New(file.New(texts), s.Last(), api.MaxPages, slices.Concat(s.Avail(), s.Freed()))
}

// wantPut puts x in, and gives the new root.
func wantPut(t *testing.T, s *store.Store, root int, x api.Item) int {
	t.Helper()
	id, err := put.Put(s, root, x)
	if err != nil {
		t.Fatalf("Put(%d, %q): %v", root, x.Key, err)
	}
	return id
}

// wantRow puts keys in, one by one, and gives the new root.
func wantRow(t *testing.T, s *store.Store, root int, keys []string) int {
	t.Helper()
	for _, key := range keys {
		root = wantPut(t, s, root, val(key))
	}
	return root
}

func wantError(t *testing.T, what string, s *store.Store, root int, x api.Item, want api.Errno) {
	t.Helper()
	id, err := put.Put(s, root, x)
	var number api.Errno
	if id != 0 || !errors.Is(err, want) || !errors.As(err, &number) || number != want {
		t.Errorf("%s: Put(%d, %q): %d, %v; not %v", what, root, x.Key, id, err, want)
	}
}

func wantShape(t *testing.T, s *store.Store, root int, want string) {
	t.Helper()
	if got, err := tree.Shape(s, root); err != nil || got != want || !tree.Right(s, root) {
		t.Errorf("Shape(%d): %s, %v; not %s", root, got, err, want)
	}
}

func wantPage(t *testing.T, s *store.Store, id int, want api.Page) {
	t.Helper()
	if p, err := s.Read(id); err != nil || !page.Same(p, want) {
		t.Errorf("page %d: %v, %v; not %v", id, p, err, want)
	}
}

func wantItem(t *testing.T, s *store.Store, root int, want api.Item) {
	t.Helper()
	if it, err := find.Get(s, root, want.Key); err != nil || !page.Same(leafOf(it), leafOf(want)) {
		t.Errorf("item %q: %v, %v; not %v", want.Key, it, err, want)
	}
}

// wantNumbers: which numbers are dirty, freed and available, and the one behind the last.
func wantNumbers(t *testing.T, s *store.Store, dirty, freed, avail []int, last int) {
	t.Helper()
	if !slices.Equal(s.Dirty(), dirty) || !slices.Equal(s.Freed(), freed) || !slices.Equal(s.Avail(), avail) || s.Last() != last {
		t.Errorf("dirty %v, freed %v, available %v, last %d; not %v, %v, %v, %d", s.Dirty(), s.Freed(), s.Avail(), s.Last(), dirty, freed, avail, last)
	}
}

// chars gives each byte of text by itself.
func chars(text string) []string { return strings.Split(text, "") }

// backward gives the list the other way round.
func backward(list []string) []string {
	list = slices.Clone(list)
	slices.Reverse(list)
	return list
}

// upTo gives the numbers from a up to b.
func upTo(a, b int) []int {
	var l []int
	for n := a; n <= b; n++ {
		l = append(l, n)
	}
	return l
}

// P11.1: in nothing a leaf of the item alone is Added, whatever its kind.
func TestNothing(t *testing.T) {
	for _, x := range ofKinds("k") {
		s := store.New(file.New(nil), 9, api.MaxPages, []int{7, 5})
		if id := wantPut(t, s, 0, x); id != 5 {
			t.Errorf("Put: %d, not 5", id)
		}
		wantPage(t, s, 5, leafOf(x))
		wantNumbers(t, s, []int{5}, nil, []int{7}, 9)
		if id := wantPut(t, stored(), 0, x); id != 2 {
			t.Errorf("Put: %d, not 2", id)
		}
	}
	for _, key := range []string{"\x00", "a", "12345678", "\xff\xff\xff\xff\xff\xff\xff\xff"} {
		s := stored(leaf("a b"))
		wantPage(t, s, wantPut(t, s, 0, val(key)), leaf(key))
		wantNumbers(t, s, []int{3}, nil, nil, 4)
	}
}

// P11.1: a key below the leaf's first one, between two, above its last one; a leaf that has Fan already is split, three stay.
func TestLeaf(t *testing.T) {
	for _, c := range []struct{ keys, key, want string }{
		{"m", "a", "(a m)"}, {"m", "z", "(m z)"}, {"m", "m\x00", "(m m\x00)"}, {"m", "l\xff", "(l\xff m)"},
		{"b f", "a", "(a b f)"}, {"b f", "d", "(b d f)"}, {"b f", "h", "(b f h)"},
		{"b d f", "a", "(a b d f)"}, {"b d f", "c", "(b c d f)"}, {"b d f", "e", "(b d e f)"}, {"b d f", "g", "(b d f g)"},
		{"b d f h", "a", "[(a b d)(f h)]"}, {"b d f h", "c", "[(b c d)(f h)]"}, {"b d f h", "e", "[(b d e)(f h)]"},
		{"b d f h", "g", "[(b d f)(g h)]"}, {"b d f h", "i", "[(b d f)(h i)]"},
	} {
		for ofFile := range 2 {
			s := made(t, ofFile, leaf(c.keys))
			root := wantPut(t, s, 2, val(c.key))
			wantShape(t, s, root, c.want)
			for _, key := range append(strings.Fields(c.keys), c.key) {
				wantItem(t, s, root, val(key))
			}
		}
	}
}

// P11.1: a root that is a leaf, split: the rest is behind it, and above both the new root, its key the rest's first.
func TestLeafIsSplit(t *testing.T) {
	s := stored(leaf("b d f h"))
	if root := wantPut(t, s, 2, val("g")); root != 5 {
		t.Errorf("the root is %d", root)
	}
	wantPage(t, s, 3, leaf("b d f"))
	wantPage(t, s, 4, leaf("g h"))
	wantPage(t, s, 5, branch("g", 3, 4))
	wantNumbers(t, s, []int{3, 4, 5}, []int{2}, nil, 6)
}

// P11.1: a key that is there: its item is replaced, by one of any kind, and nothing is split, however full its leaf and the branches above.
func TestReplaced(t *testing.T) {
	pages := []api.Page{leaf("b c d e"), leaf("g h i j"), leaf("m n o p"), leaf("r s t u"), branch("f l q", 2, 3, 4, 5)}
	keys := chars("bcdeghijmnoprstu")
	for ofFile := range len(pages) + 1 {
		for at, key := range keys {
			for _, x := range ofKinds(key) {
				s := made(t, ofFile, pages...)
				root := wantPut(t, s, 6, x)
				wantShape(t, s, root, "[(b c d e)(g h i j)(m n o p)(r s t u)]")
				wantItem(t, s, root, x)
				for _, other := range slices.Concat(keys[:at], keys[at+1:]) {
					wantItem(t, s, root, val(other))
				}
			}
		}
	}
	for _, was := range ofKinds("k") {
		for _, x := range ofKinds("k") {
			s := stored(leafOf(val("a"), was, val("x"), val("z")))
			wantPage(t, s, wantPut(t, s, 2, x), leafOf(val("a"), x, val("x"), val("z")))
		}
	}
}

// P11.1: items of each kind go to their places, those beside them stay as they are, also where they go to another page.
func TestItemsOfEachKind(t *testing.T) {
	for _, one := range ofKinds("b") {
		for _, two := range ofKinds("d") {
			s := stored(leafOf(one, two))
			root := wantPut(t, s, 2, val("a"))
			for _, x := range append(ofKinds("c"), val("c")) {
				root = wantPut(t, s, root, x)
				wantPage(t, s, root, leafOf(val("a"), one, x, two))
			}
			root = wantPut(t, s, root, val("e"))
			for _, x := range []api.Item{val("a"), one, val("c"), two, val("e")} {
				wantItem(t, s, root, x)
			}
		}
	}
}

// P11.1: the way goes to the child of the last key that isn't above; the branch's keys stay as they are.
func TestWhichChild(t *testing.T) {
	pages := []api.Page{leaf("b d"), leaf("g i"), leaf("m o"), leaf("s u"), branch("f l q", 2, 3, 4, 5)}
	for _, c := range []struct{ key, want string }{
		{"\x00", "[(\x00 b d)(g i)(m o)(s u)]"}, {"a", "[(a b d)(g i)(m o)(s u)]"}, {"c", "[(b c d)(g i)(m o)(s u)]"},
		{"e", "[(b d e)(g i)(m o)(s u)]"}, {"e\xff", "[(b d e\xff)(g i)(m o)(s u)]"},
		{"f", "[(b d)(f g i)(m o)(s u)]"}, {"f\x00", "[(b d)(f\x00 g i)(m o)(s u)]"}, {"k", "[(b d)(g i k)(m o)(s u)]"},
		{"l", "[(b d)(g i)(l m o)(s u)]"}, {"n", "[(b d)(g i)(m n o)(s u)]"}, {"p", "[(b d)(g i)(m o p)(s u)]"},
		{"q", "[(b d)(g i)(m o)(q s u)]"}, {"t", "[(b d)(g i)(m o)(s t u)]"}, {"z", "[(b d)(g i)(m o)(s u z)]"}, {"\xff", "[(b d)(g i)(m o)(s u \xff)]"},
	} {
		for ofFile := range len(pages) + 1 {
			s := made(t, ofFile, pages...)
			root := wantPut(t, s, 6, val(c.key))
			wantShape(t, s, root, c.want)
			if p, err := s.Read(root); err != nil || !slices.Equal(p.Keys, pages[4].Keys) {
				t.Errorf("%q: %q, %v", c.key, p.Keys, err)
			}
		}
	}
}

// P11.1: two branches deep: keys of the root, and keys of the branch below, are held against likewise.
func TestWhichChildBelow(t *testing.T) {
	pages := []api.Page{leaf("b d"), leaf("g i"), leaf("m o"), leaf("s u"), branch("f", 2, 3), branch("q", 4, 5), branch("l", 6, 7)}
	for _, c := range []struct{ key, want string }{
		{"a", "[[(a b d)(g i)][(m o)(s u)]]"}, {"e", "[[(b d e)(g i)][(m o)(s u)]]"}, {"f", "[[(b d)(f g i)][(m o)(s u)]]"}, {"k", "[[(b d)(g i k)][(m o)(s u)]]"},
		{"l", "[[(b d)(g i)][(l m o)(s u)]]"}, {"p", "[[(b d)(g i)][(m o p)(s u)]]"}, {"q", "[[(b d)(g i)][(m o)(q s u)]]"}, {"z", "[[(b d)(g i)][(m o)(s u z)]]"},
	} {
		for ofFile := range len(pages) + 1 {
			s := made(t, ofFile, pages...)
			wantShape(t, s, wantPut(t, s, 8, val(c.key)), c.want)
		}
	}
}

// P11.1: a leaf under a branch is split: the branch has one child more, right behind it, its key the new page's first.
func TestLeafIsSplitUnderABranch(t *testing.T) {
	pages := []api.Page{leaf("b d f h"), leaf("m n o p"), leaf("s t u v"), branch("l r", 2, 3, 4)}
	for _, c := range []struct {
		key       string
		low, high api.Page
		top       api.Page // 6: the root; 7: the leaf, 8: what was split off
	}{
		{"a", leaf("a b d"), leaf("f h"), branch("f l r", 7, 8, 3, 4)},
		{"e", leaf("b d e"), leaf("f h"), branch("f l r", 7, 8, 3, 4)},
		{"k", leaf("b d f"), leaf("h k"), branch("h l r", 7, 8, 3, 4)},
		{"l", leaf("l m n"), leaf("o p"), branch("l o r", 2, 7, 8, 4)},
		{"oo", leaf("m n o"), leaf("oo p"), branch("l oo r", 2, 7, 8, 4)},
		{"q", leaf("m n o"), leaf("p q"), branch("l p r", 2, 7, 8, 4)},
		{"r", leaf("r s t"), leaf("u v"), branch("l r u", 2, 3, 7, 8)},
		{"z", leaf("s t u"), leaf("v z"), branch("l r v", 2, 3, 7, 8)},
	} {
		s := stored(pages...)
		if root := wantPut(t, s, 5, val(c.key)); root != 6 {
			t.Errorf("the root is %d", root)
		}
		wantPage(t, s, 6, c.top)
		wantPage(t, s, 7, c.low)
		wantPage(t, s, 8, c.high)
		if !tree.Right(s, 6) {
			t.Errorf("%q: not right", c.key)
		}
	}
}

// fullBranch gives a branch of Fan leaves, 6, that have Fan items each, with keys that aren't the leaves' first ones.
func fullBranch() []api.Page {
	return []api.Page{leaf("b c d e"), leaf("m n o oo"), leaf("q r s t"), leaf("x y z zz"), branch("l p w", 2, 3, 4, 5)}
}

// P11.1: a branch is split: three children stay; the new page's first key is empty, and the one that stood there ahead of the split goes up, to a new root.
func TestBranchIsSplit(t *testing.T) {
	for _, c := range []struct {
		key       string
		was       int // the leaf
		low, high api.Page
		up, shape string // 7: the branch, 8: the leaf, 9: what was split off the leaf, 10: off the branch, 11: the new root
	}{
		{"a", 2, branch("d l", 8, 9, 3), branch("w", 4, 5), "p", "[[(a b c)(d e)(m n o oo)][(q r s t)(x y z zz)]]"},
		{"k", 2, branch("e l", 8, 9, 3), branch("w", 4, 5), "p", "[[(b c d)(e k)(m n o oo)][(q r s t)(x y z zz)]]"},
		{"l", 3, branch("l o", 2, 8, 9), branch("w", 4, 5), "p", "[[(b c d e)(l m n)(o oo)][(q r s t)(x y z zz)]]"},
		{"op", 3, branch("l oo", 2, 8, 9), branch("w", 4, 5), "p", "[[(b c d e)(m n o)(oo op)][(q r s t)(x y z zz)]]"},
		{"p", 4, branch("l p", 2, 3, 8), branch("w", 9, 5), "s", "[[(b c d e)(m n o oo)(p q r)][(s t)(x y z zz)]]"},
		{"u", 4, branch("l p", 2, 3, 8), branch("w", 9, 5), "t", "[[(b c d e)(m n o oo)(q r s)][(t u)(x y z zz)]]"},
		{"w", 5, branch("l p", 2, 3, 4), branch("z", 8, 9), "w", "[[(b c d e)(m n o oo)(q r s t)][(w x y)(z zz)]]"},
		{"zzz", 5, branch("l p", 2, 3, 4), branch("zz", 8, 9), "w", "[[(b c d e)(m n o oo)(q r s t)][(x y z)(zz zzz)]]"},
	} {
		s := stored(fullBranch()...)
		if root := wantPut(t, s, 6, val(c.key)); root != 11 {
			t.Errorf("the root is %d", root)
		}
		wantPage(t, s, 7, c.low)
		wantPage(t, s, 10, c.high)
		wantPage(t, s, 11, branch(c.up, 7, 10))
		wantShape(t, s, 11, c.shape)
		wantNumbers(t, s, upTo(7, 11), []int{c.was, 6}, nil, 12)
	}
}

// between gives full pages as fullBranch does, and branches of two leaves whose keys are below theirs, 9, above, 12, and above those, 15.
func between() []api.Page {
	return append(fullBranch(),
		leaf("0 1"), leaf("2 3"), branch("2", 7, 8),
		leaf("}1 }2"), leaf("}3 }4"), branch("}3", 10, 11),
		leaf("~1 ~2"), leaf("~3 ~4"), branch("~3", 13, 14))
}

// P11.1: a branch under another one is split: the one above, if it has room, has one child more, right behind it, and isn't split.
func TestBranchIsSplitUnderABranch(t *testing.T) {
	full, split := "[(b c d e)(m n o oo)(q r s t)(x y z zz)]", "[(a b c)(d e)(m n o oo)][(q r s t)(x y z zz)]"
	below, above := "[(0 1)(2 3)]", "[(}1 }2)(}3 }4)]"
	for _, c := range []struct {
		was, want  api.Page // 16: the root; 17: the root, 18: the branch, 19: the leaf, 20, 21: what was split off those
		shape, got string
	}{
		{branch("}", 6, 12), branch("p }", 18, 21, 12), full + above, split + above},
		{branch("B", 9, 6), branch("B p", 9, 18, 21), below + full, below + split},
		{branch("B }", 9, 6, 12), branch("B p }", 9, 18, 21, 12), below + full + above, below + split + above},
	} {
		s := stored(append(between(), c.was)...)
		wantShape(t, s, 16, "["+c.shape+"]")
		if root := wantPut(t, s, 16, val("a")); root != 17 {
			t.Errorf("the root is %d", root)
		}
		wantPage(t, s, 17, c.want)
		wantPage(t, s, 18, branch("d l", 19, 20, 3))
		wantPage(t, s, 21, branch("w", 4, 5))
		wantShape(t, s, 17, "["+c.got+"]")
		wantNumbers(t, s, upTo(17, 21), []int{2, 6, 16}, nil, 22)
	}
}

// P11.1: what is split, up to the root, of a tree three deep: it is four deep then.
func TestAllIsSplit(t *testing.T) {
	s := stored(append(between(), branch("B } ~", 9, 6, 12, 15))...)
	if root := wantPut(t, s, 16, val("a")); root != 23 {
		t.Errorf("the root is %d", root)
	}
	for id, want := range map[int]api.Page{
		17: branch("B p", 9, 18, 21), 22: branch("~", 12, 15), 23: branch("}", 17, 22), // the root, what was split off it, the new root
		18: branch("d l", 19, 20, 3), 21: branch("w", 4, 5), // the branch, what was split off it
		19: leaf("a b c"), 20: leaf("d e"),
	} {
		wantPage(t, s, id, want)
	}
	wantShape(t, s, 23, "[[[(0 1)(2 3)][(a b c)(d e)(m n o oo)][(q r s t)(x y z zz)]][[(}1 }2)(}3 }4)][(~1 ~2)(~3 ~4)]]]")
	wantNumbers(t, s, upTo(17, 23), []int{2, 6, 16}, nil, 24)
}

// row: 62 characters, each above the one ahead of it.
const row = "0123456789ABCDEFGHIJKLMNOPQRSTUVWXYZabcdefghijklmnopqrstuvwxyz"

// P11.1: keys put in rising, falling, and mixed, into trees that grow to two, three and four deep; of dirty pages, of the file's, and of both.
func TestRows(t *testing.T) {
	for _, c := range []struct {
		keys []string
		want string
	}{
		{chars(row[:4]), "(0 1 2 3)"},
		{chars(row[:5]), "[(0 1 2)(3 4)]"},
		{chars(row[:13]), "[(0 1 2)(3 4 5)(6 7 8)(9 A B C)]"},
		{chars(row[:14]), "[[(0 1 2)(3 4 5)(6 7 8)][(9 A B)(C D)]]"},
		{chars(row[:40]), "[[(0 1 2)(3 4 5)(6 7 8)][(9 A B)(C D E)(F G H)][(I J K)(L M N)(O P Q)][(R S T)(U V W)(X Y Z)(a b c d)]]"},
		{chars(row[:41]), "[[[(0 1 2)(3 4 5)(6 7 8)][(9 A B)(C D E)(F G H)][(I J K)(L M N)(O P Q)]][[(R S T)(U V W)(X Y Z)][(a b c)(d e)]]]"},
		{backward(chars(row[:4])), "(0 1 2 3)"},
		{backward(chars(row[:5])), "[(0 1 2)(3 4)]"},
		{backward(chars(row[:10])), "[(0 1 2 3)(4 5)(6 7)(8 9)]"},
		{backward(chars(row[:11])), "[[(0 1 2)(3 4)(5 6)][(7 8)(9 A)]]"},
		{backward(chars(row[:22])), "[[(0 1 2 3)(4 5)(6 7)(8 9)][(A B)(C D)][(E F)(G H)][(I J)(K L)]]"},
		{backward(chars(row[:23])), "[[[(0 1 2)(3 4)(5 6)][(7 8)(9 A)][(B C)(D E)]][[(F G)(H I)][(J K)(L M)]]]"},
		{chars("0753186429"), "[(0 1 2)(3 4)(5 6 7)(8 9)]"},
		{chars("0753186429A97B"), "[(0 1 2)(3 4)(5 6 7)(8 9 A B)]"},
		{chars("0753186429A97BC"), "[[(0 1 2)(3 4)(5 6 7)][(8 9 A)(B C)]]"},
		{chars("C0BA76543218D9D0"), "[[(0 1 2)(3 4)(5 6)][(7 8 9 A)(B C D)]]"},
	} {
		for _, each := range []int{1, 2, 3, 7, 100} {
			s, root := stored(), 0
			for keys := range slices.Chunk(c.keys, each) {
				s = committed(s)
				root = wantRow(t, s, root, keys)
			}
			wantShape(t, s, root, c.want)
			for _, key := range c.keys {
				wantItem(t, s, root, val(key))
			}
		}
	}
}

// fourDeep gives the number of a tree's root, and a store over a file with its pages, all of which are in use: [[[(0 1 2)(3 4 5)(6 7 8)][(9 A B)(C D E)(F G H)][(I J K)(L M N)(O P Q)]][[(R S T)(U V W)(X Y Z)][(a b c)(d e)]]].
func fourDeep(t *testing.T) (int, *store.Store) {
	t.Helper()
	s := stored()
	root := wantRow(t, s, 0, chars(row[:41]))
	return root, committed(s)
}

// wayOf gives the numbers of the pages from the root to the leaf on which key would be.
func wayOf(t *testing.T, s *store.Store, root int, key string) []int {
	t.Helper()
	way := []int{root}
	for {
		p, err := s.Read(way[len(way)-1])
		if err != nil {
			t.Fatal(err)
		}
		if p.Kind == api.PLeaf {
			return way
		}
		at := len(p.Keys)
		for p.Keys[at-1] > key {
			at--
		}
		way = append(way, p.Kids[at-1])
	}
}

func pagesOf(t *testing.T, s *store.Store, root int) []int {
	t.Helper()
	l, err := tree.Pages(s, root)
	if err != nil {
		t.Fatal(err)
	}
	return l
}

// P11.2: the pages from the root to the leaf are copied, the root first, and freed; all others stay where they are.
func TestPathIsCopied(t *testing.T) {
	for i, key := range chars(row[:41]) {
		if i%3 == 0 {
			key += "+" // another one on the same leaf, which has room
		}
		root, s := fourDeep(t)
		last, elder, way := s.Last(), pagesOf(t, s, root), wayOf(t, s, root, key)
		if len(way) != 4 {
			t.Fatalf("the way is %v", way)
		}
		was := slices.Sorted(slices.Values(way))
		top := wantPut(t, s, root, val(key))
		wantNumbers(t, s, upTo(last, last+3), was, nil, last+4)
		if got := wayOf(t, s, top, key); !slices.Equal(got, upTo(last, last+3)) {
			t.Errorf("the new way is %v", got)
		}
		want := slices.DeleteFunc(slices.Clone(elder), func(id int) bool { return slices.Contains(way, id) })
		if got := pagesOf(t, s, top); !slices.Equal(got, append(want, upTo(last, last+3)...)) {
			t.Errorf("the tree's pages were %v and are %v", elder, got)
		}
	}
}

// P11.2: a page that is dirty already stays where it is: along the same way nothing more is copied, along another one what isn't yet.
func TestDirtyPagesStay(t *testing.T) {
	root, s := fourDeep(t)
	last := s.Last()
	top := wantPut(t, s, root, val("4+"))
	for _, c := range []struct {
		key  string
		more int
	}{
		{"4+", 0}, {"4", 0}, {"3", 0}, {"0", 1}, {"1+", 0}, {"8+", 1}, {"9", 2}, {"D", 1}, {"a+", 3}, {"d", 1}, {"e+", 0}, {"R", 2},
	} {
		last := s.Last()
		if id := wantPut(t, s, top, val(c.key)); id != top {
			t.Errorf("%q: the root is %d", c.key, id)
		}
		if s.Last() != last+c.more {
			t.Errorf("%q: %d pages more, not %d", c.key, s.Last()-last, c.more)
		}
	}
	if len(s.Freed()) != s.Last()-last || len(s.Avail()) != 0 {
		t.Errorf("freed %v, available %v", s.Freed(), s.Avail())
	}
	wantShape(t, s, top, "[[[(0 1 1+ 2)(3 4 4+ 5)(6 7 8 8+)][(9 A B)(C D E)(F G H)][(I J K)(L M N)(O P Q)]][[(R S T)(U V W)(X Y Z)][(a a+ b c)(d e e+)]]]")
	for _, key := range append(chars(row[:41]), "1+", "4+", "8+", "a+", "e+") {
		wantItem(t, s, top, val(key))
	}
}

// P11.1, P11.2: new numbers are the least that are available, then those from the end on: the way's from the root on, then what is split off, from below up, then the new root's.
func TestNumbers(t *testing.T) {
	free := make([]api.Page, 4) // 7 to 10
	for n := range 5 {
		avail := []int{10, 8, 7, 9}[4-min(n, 4):]
		numbers := slices.Sorted(slices.Values(avail))
		numbers = append(numbers, upTo(11, 15-len(avail))...) // five in all
		s := storedAs(append(fullBranch(), free...), 11, api.MaxPages, avail)
		if root := wantPut(t, s, 6, val("a")); root != numbers[4] {
			t.Errorf("the root is %d, not %d", root, numbers[4])
		}
		wantPage(t, s, numbers[0], branch("d l", numbers[1], numbers[2], 3))
		wantPage(t, s, numbers[1], leaf("a b c"))
		wantPage(t, s, numbers[2], leaf("d e"))
		wantPage(t, s, numbers[3], branch("w", 4, 5))
		wantPage(t, s, numbers[4], branch("p", numbers[0], numbers[3]))
		wantNumbers(t, s, numbers, []int{2, 6}, nil, 15-len(avail)+1)
	}
}

// P11.2: who reads the tree that was, on the file, has all of it, whatever is put in; so has who reads it by the same store, where all of it was on the file.
func TestElderTreeIsAsItWas(t *testing.T) {
	_, s := fourDeep(t)
	texts := make([]string, s.Last())
	for id := range texts {
		p, _ := s.Read(id)
		texts[id] = page.Bytes(p)
	}
	f := file.New(texts)
	s = store.New(f, s.Last(), api.MaxPages, nil)
	root, _ := fourDeep(t)
	elder := store.New(f, s.Last(), api.MaxPages, nil)
	items, err := tree.List(elder, root)
	if err != nil {
		t.Fatal(err)
	}
	top := root
	for i, key := range chars("5hZx0NkU7rEbyLiSpCzwJ") {
		top = wantPut(t, s, top, ofKinds(key + "+")[i%9])
		for _, reads := range []*store.Store{elder, s} {
			got, err := tree.List(reads, root)
			if err != nil || !slices.EqualFunc(got, items, sameItem) {
				t.Fatalf("%q: the elder tree is %v, %v", key, got, err)
			}
		}
	}
	for id, text := range texts {
		if f.Read(id) != text {
			t.Errorf("page %d of the file is changed", id)
		}
	}
	if f.Len() != len(texts) || len(f.Loose()) != 0 {
		t.Errorf("the file has %d pages, loose are %v", f.Len(), f.Loose())
	}
}

func sameItem(a, b api.Item) bool { return page.Same(leafOf(a), leafOf(b)) }

// P11.2: a store's Copy goes its own way: what is put into one isn't in the other.
func TestCopies(t *testing.T) {
	s := made(t, 3, leaf("b d f h"), leaf("m o"), branch("l", 2, 3), leaf("q s"), leaf("u w"), branch("t", 5, 6), branch("p", 4, 7))
	one := wantPut(t, s, 8, val("n"))
	other := s.Copy()
	two := wantPut(t, other, one, val("a"))
	three := wantPut(t, s, one, val("r"))
	wantShape(t, other, two, "[[(a b d)(f h)(m n o)][(q s)(u w)]]")
	wantShape(t, s, three, "[[(b d f h)(m n o)][(q r s)(u w)]]")
}

// P11.1: the item that is handed in is neither changed nor kept, nor what is behind its values.
func TestItemIsNotKept(t *testing.T) {
	for _, keys := range []string{"", "a", "a z", "k", "a b c d"} {
		s, root := stored(), 0
		for _, key := range strings.Fields(keys) {
			root = wantPut(t, s, root, val(key))
		}
		vals := []string{"x", "y", "z", "behind"}
		x := api.Item{Key: "k", Kind: api.IDup, Vals: vals[:2]}
		root = wantPut(t, s, root, x)
		if !slices.Equal(vals, []string{"x", "y", "z", "behind"}) {
			t.Errorf("what was handed in is %q", vals)
		}
		vals[0], vals[1], vals[2] = "p", "q", "r"
		wantItem(t, s, root, api.Item{Key: "k", Kind: api.IDup, Vals: []string{"x", "y"}})
	}
}

// P11.1: the same makes the same.
func TestTheSameAgain(t *testing.T) {
	for _, key := range []string{"0", "4+", "e", "e+", "zz"} {
		root, one := fourDeep(t)
		_, two := fourDeep(t)
		if a, b := wantPut(t, one, root, val(key)), wantPut(t, two, root, val(key)); a != b || !slices.Equal(one.Dirty(), two.Dirty()) {
			t.Errorf("%q: roots %d, %d, dirty %v, %v", key, a, b, one.Dirty(), two.Dirty())
		}
	}
}
