package put_test

import (
	"slices"
	"strconv"
	"strings"
	"testing"

	"copyhold/api"
	"copyhold/file"
	"copyhold/page"
	"copyhold/put"
	"copyhold/store"
)

// badItems gives items of which a leaf alone is no page.
func badItems() []api.Item {
	list := []api.Item{{}, {Key: "a"}, {Kind: api.IVal}, {Kind: api.IVal, Val: "v"}, {Key: "123456789", Kind: api.IVal}, {Key: strings.Repeat("k", 100000), Kind: api.IVal}}
	for _, kind := range []int{lowest, -1, 0, api.IRoot + 1, highest} {
		list = append(list, api.Item{Key: "a", Kind: kind, Val: "v"})
	}
	for _, x := range []api.Item{
		{Kind: api.IVal, Val: strings.Repeat("v", api.MaxShort+1)},
		{Kind: api.IVal, Run: 3},
		{Kind: api.IVal, Vals: []string{"x"}},
		{Kind: api.ILong},
		{Kind: api.ILong, Run: 1, Len: 100},
		{Kind: api.ILong, Run: api.MaxPages, Len: 100},
		{Kind: api.ILong, Run: 3, Len: api.MaxShort},
		{Kind: api.ILong, Run: 3, Len: api.MaxValue + 1},
		{Kind: api.ILong, Run: 3, Len: 100, Val: "v"},
		{Kind: api.IDup},
		{Kind: api.IDup, Vals: []string{""}},
		{Kind: api.IDup, Vals: []string{"y", "x"}},
		{Kind: api.IDup, Vals: []string{"x", "x"}},
		{Kind: api.IDup, Vals: []string{strings.Repeat("x", api.MaxShort+1)}},
		{Kind: api.IDup, Vals: chars("wxyz")},
		{Kind: api.IDup, Vals: []string{"x"}, Dup: 3},
		{Kind: api.IDup, Dup: 1},
		{Kind: api.IDup, Dup: -1},
		{Kind: api.IDup, Dup: api.MaxPages},
		{Kind: api.IRoot, Root: api.Root{Page: 1}},
		{Kind: api.IRoot, Root: api.Root{Page: api.MaxPages}},
		{Kind: api.IRoot, Root: api.Root{Count: -1}},
		{Kind: api.IRoot, Root: api.Root{Count: 1000001}},
		{Kind: api.IRoot, Root: api.Root{Flags: 2}},
		{Kind: api.IRoot, Val: "v"},
	} {
		x.Key = "a"
		list = append(list, x)
	}
	return list
}

// P11.1: an item of which a leaf alone isn't a page is ErrForm, whatever the root, ahead of all other errors.
func TestWrongItems(t *testing.T) {
	pages := append(fullBranch(), others()...) // 6: the root, 7 and the next ones: no pages of a tree
	for i, x := range badItems() {
		what := "item " + strconv.Itoa(i)
		if page.Is(leafOf(x)) {
			t.Errorf("%s is right", what)
		}
		for _, root := range []int{0, 2, 6, 7, 8, lowest, -1, 1, 200, api.MaxPages, highest} {
			wantError(t, what, stored(pages...), root, x, api.ErrForm)
			wantError(t, what+", no number left", storedAs(pages, 12, 12, nil), root, x, api.ErrForm)
		}
		wantError(t, what+", too many dirty", dirtyBeside(t, api.MaxDirty), 0, x, api.ErrForm)
	}
}

// P11.1: roots that can't be seen are ErrMap, those on which nothing is ErrCorrupt.
func TestWrongRoots(t *testing.T) {
	pages := []api.Page{leaf("a b"), leaf("c d"), branch("c", 2, 3)}
	for _, key := range []string{"\x00", "a", "bb", "d", "z"} {
		for _, root := range []int{lowest, lowest + 1, -400, -2, -1, 1, 9, 10, 399, 400, 401, highest - 1, highest} {
			wantError(t, "a wrong root", storedAs(pages, 5, 9, nil), root, val(key), api.ErrMap)
		}
		for _, root := range []int{5, 8, 399} {
			wantError(t, "a root that is none", stored(pages...), root, val(key), api.ErrCorrupt)
		}
		for _, root := range []int{-1, 1, 400} {
			wantError(t, "a wrong root", stored(pages...), root, val(key), api.ErrMap)
		}
		wantError(t, "a store that sees nothing", storedAs(pages, 5, 2, nil), 2, val(key), api.ErrMap)
	}
}

// P11.1: a child that can't be seen is ErrMap, where the way goes there; where it doesn't, it isn't looked at.
func TestUnseenChild(t *testing.T) {
	pages := []api.Page{leaf("a b"), branch("c", 2, 390), branch("a", 390, 2), branch("k", 3, 3)}
	seen := func() *store.Store { return storedAs(pages, 6, 390, nil) }
	for _, key := range []string{"c", "d", "j"} {
		wantError(t, "the last child", seen(), 3, val(key), api.ErrMap)
		wantError(t, "a child's", seen(), 5, val(key), api.ErrMap)
	}
	wantError(t, "the first child", seen(), 4, val("A"), api.ErrMap)
	for root, key := range map[int]string{3: "aa", 4: "z", 5: "aa"} {
		s := seen()
		wantItem(t, s, wantPut(t, s, root, val(key)), val(key))
	}
}

// P11.1: a page of another Kind, or what is no page, as a root, as a child, and as a child's child, on the file and dirty, is ErrCorrupt; beside the way it isn't looked at.
func TestOtherKinds(t *testing.T) {
	for _, other := range others() {
		what := "kind " + strconv.Itoa(other.Kind)
		pages := []api.Page{other, leaf("a b"), branch("c", 2, 2), branch("c", 3, 2), branch("c", 4, 4)}
		for _, key := range []string{"A", "a", "c", "z"} {
			wantError(t, what+", a root", stored(pages...), 2, val(key), api.ErrCorrupt)
			wantError(t, what+", a child", stored(pages...), 4, val(key), api.ErrCorrupt)
			wantError(t, what+", a child's", stored(pages...), 6, val(key), api.ErrCorrupt)
			if page.Is(other) {
				wantError(t, what+", dirty, a root", made(t, 0, pages...), 2, val(key), api.ErrCorrupt)
				wantError(t, what+", dirty, a child", made(t, 0, pages...), 4, val(key), api.ErrCorrupt)
				wantError(t, what+", dirty, a child's", made(t, 0, pages...), 6, val(key), api.ErrCorrupt)
			}
		}
		wantError(t, what+", the last child", stored(pages...), 5, val("c"), api.ErrCorrupt)
		s := stored(pages...)
		wantPage(t, s, wantPut(t, s, 5, val("aa")), branch("c", 8, 2))
		wantPage(t, s, 8, leaf("a aa b"))
	}
}

// P11.1: bytes that were a page, but for one of them, are corrupt; so is a number of Run that isn't Set yet.
func TestBrokenBytes(t *testing.T) {
	good := textsOf([]api.Page{leaf("c d"), branch("c", 2, 2)})
	for id := 2; id <= 3; id++ {
		for _, bad := range []string{"", good[id][:len(good[id])-1], good[id] + "\x00", good[id][1:], strings.Replace(good[id], "c", "x", 1), "PLeaf"} {
			texts := slices.Clone(good)
			texts[id] = bad
			wantError(t, "page "+strconv.Itoa(id)+" is broken", store.New(file.New(texts), 4, api.MaxPages, nil), 3, val("c"), api.ErrCorrupt)
		}
	}
	s := store.New(file.New(good), 4, api.MaxPages, []int{2})
	if id, err := s.Run(1); id != 2 || err != nil {
		t.Fatalf("Run: %d, %v", id, err)
	}
	wantError(t, "not Set yet", s, 2, val("c"), api.ErrCorrupt)
	wantError(t, "a child not Set yet", s, 3, val("c"), api.ErrCorrupt)
}

// deep gives the pages of a tree so deep, each page with two keys or children, the root the last one.
func deep(depth int) []api.Page {
	var pages []api.Page
	for i := range 1 << (depth - 1) {
		pages = append(pages, leaf(strconv.Itoa(1000+2*i)+" "+strconv.Itoa(1001+2*i)))
	}
	for first, n := 0, len(pages); n > 1; n /= 2 {
		wide := 1 << depth / n // leaves' keys under two children
		for i := range n / 2 {
			pages = append(pages, branch(strconv.Itoa(1000+i*2*wide+wide), 2+first+2*i, 3+first+2*i))
		}
		first += n
	}
	return pages
}

// P11.1, P11.2: trees of up to eight deep.
func TestEightDeep(t *testing.T) {
	for depth := 1; depth <= 8; depth++ {
		pages := deep(depth)
		for _, key := range []string{"1", "1000", "1001+", "1002", "1" + strconv.Itoa(1<<depth), "2"} {
			s := stored(pages...)
			root := wantPut(t, s, 1+len(pages), val(key))
			wantItem(t, s, root, val(key))
			if way := wayOf(t, s, root, key); len(way) != depth || !slices.Equal(s.Dirty(), way) || len(s.Freed()) != depth {
				t.Errorf("%d deep, %q: the way is %v, dirty %v, freed %v", depth, key, way, s.Dirty(), s.Freed())
			}
		}
	}
}

// P11.1: no tree is nine deep: such a one is refused, and comes back.
func TestNineDeep(t *testing.T) {
	pages := []api.Page{leaf("a b")}
	for i := range 20 {
		pages = append(pages, branch("k", 2+i, 2+i))
	}
	for root := 2; root <= 22; root++ {
		s := stored(pages...)
		if root <= 9 {
			wantItem(t, s, wantPut(t, s, root, val("c")), val("c"))
			continue
		}
		wantError(t, "nine deep", s, root, val("a"), api.ErrCorrupt)
		wantError(t, "nine deep", made(t, 0, pages...), root, val("k"), api.ErrCorrupt)
	}
}

// P11.1: pages that come back to themselves: each call comes back, with an error and nothing beside it, where the way goes round.
func TestCycles(t *testing.T) {
	for what, pages := range map[string][]api.Page{
		"itself":                 {branch("k", 2, 2)},
		"itself, first":          {branch("k", 2, 3), leaf("m n")},
		"itself, last":           {branch("k", 3, 2), leaf("a b")},
		"itself, in the midst":   {branch("g m", 3, 2, 4), leaf("a b"), leaf("m n")},
		"each other":             {branch("k", 4, 3), branch("m", 5, 2), leaf("a b"), leaf("k l")},
		"three of them":          {branch("k", 5, 3), branch("m", 5, 4), branch("p", 5, 2), leaf("a b")},
		"all the children":       {branch("b c d", 3, 3, 3, 3), branch("b c d", 2, 2, 2, 2)},
		"the root's grandfather": {branch("k", 3, 3), branch("k", 4, 4), branch("k", 2, 2)},
		"full pages":             {branch("x y z", 3, 2, 3, 2), leaf("a b c d")},
		"what is made":           {branch("k", 3, 3), branch("k", 4, 5), branch("k", 5, 4)},
	} {
		for _, key := range chars("abcdgklmpqxyz") {
			for _, s := range []*store.Store{
				stored(pages...), made(t, 0, pages...), made(t, 1, pages...), made(t, len(pages)-1, pages...),
				storedAs(pages, 2+len(pages), api.MaxPages, upTo(2, 6)),
				storedAs(pages, 2+len(pages), 2+len(pages)+2, nil),
			} {
				id, err := put.Put(s, 2, val(key))
				if err != nil && id != 0 || err == nil && id == 0 {
					t.Errorf("%s: Put(%q): %d, %v", what, key, id, err)
				}
			}
		}
	}
	for _, key := range chars("aky") {
		wantError(t, "itself", stored(branch("k", 2, 2)), 2, val(key), api.ErrCorrupt)
		wantError(t, "itself, dirty", made(t, 0, branch("k", 2, 2)), 2, val(key), api.ErrCorrupt)
		wantError(t, "each other", stored(branch("k", 3, 3), branch("k", 2, 2)), 2, val(key), api.ErrCorrupt)
	}
}

// P11.1: where numbers lack, the answer is ErrMap, for which page of the way, or of what is split, whatever; with just enough it is none.
func TestNoNumber(t *testing.T) {
	pages := append(between(), branch("B } ~", 9, 6, 12, 15)) // 16, of which all splits: seven numbers
	for n := range 8 {
		texts := append(textsOf(pages), make([]string, 7)...)
		for what, s := range map[string]*store.Store{
			"at the end": store.New(file.New(texts), 17, 17+n, nil),
			"available":  store.New(file.New(texts), 24, 24, upTo(17, 16+n)),
			"both":       store.New(file.New(texts), 20, 20+n-n/2, upTo(17, 16+n/2)),
		} {
			if n < 7 {
				wantError(t, what+", "+strconv.Itoa(n), s, 16, val("a"), api.ErrMap)
				continue
			}
			wantShape(t, s, wantPut(t, s, 16, val("a")), "[[[(0 1)(2 3)][(a b c)(d e)(m n o oo)][(q r s t)(x y z zz)]][[(}1 }2)(}3 }4)][(~1 ~2)(~3 ~4)]]]")
		}
	}
	none := func() *store.Store { return storedAs(pages, 17, 17, nil) }
	wantError(t, "a leaf", none(), 2, val("c"), api.ErrMap)
	wantError(t, "nothing", none(), 0, val("c"), api.ErrMap)
	wantError(t, "nothing at all", storedAs(nil, 2, 2, nil), 0, val("c"), api.ErrMap)
	wantError(t, "nothing in a full file", storedAs(nil, api.MaxPages, api.MaxPages, nil), 0, val("c"), api.ErrMap)
}

// P11.1: where all pages of the way are dirty already, no number is needed, unless one is split.
func TestNoNumberIsNeeded(t *testing.T) {
	small := storedAs(nil, 2, 5, nil)             // three numbers
	full := storedAs(nil, 2, api.MaxPages, nil)   // as many dirty pages as may be
	both := storedAs(nil, 2, 2+api.MaxDirty, nil) // both of it at once
	for _, c := range []struct {
		s      *store.Store
		beside int
		want   api.Errno
	}{{small, 0, api.ErrMap}, {full, api.MaxDirty - 3, api.ErrTxn}, {both, api.MaxDirty - 3, api.ErrTxn}} {
		for range c.beside {
			if _, err := c.s.Add(api.Page{Kind: api.POver, Text: "x"}); err != nil {
				t.Fatal(err)
			}
		}
		root := wantRow(t, c.s, 0, chars("bdfhj"))
		if id := wantRow(t, c.s, root, chars("akiahb")); id != root {
			t.Errorf("the root is %d", id)
		}
		wantShape(t, c.s, root, "[(a b d f)(h i j k)]")
		for _, key := range chars("cgl") {
			wantError(t, "a split", c.s.Copy(), root, val(key), c.want)
		}
		wantError(t, "another tree", c.s, 0, val("a"), c.want)
	}
}

// dirtyBeside gives a store over a file of what between gives, and of a root above, 16, with so many dirty pages that aren't the tree's.
func dirtyBeside(t *testing.T, n int) *store.Store {
	t.Helper()
	s := stored(append(between(), branch("B } ~", 9, 6, 12, 15))...)
	for range n {
		if _, err := s.Add(api.Page{Kind: api.POver, Text: "x"}); err != nil {
			t.Fatal(err)
		}
	}
	return s
}

// P11.1: where more than MaxDirty pages would be dirty, the answer is ErrTxn, for which page whatever; with just as many as may be it is none.
func TestTooManyDirty(t *testing.T) {
	for n := range 8 {
		s := dirtyBeside(t, api.MaxDirty-n)
		if n < 7 {
			wantError(t, strconv.Itoa(n)+" more", s, 16, val("a"), api.ErrTxn)
			continue
		}
		wantItem(t, s, wantPut(t, s, 16, val("a")), val("a"))
		if len(s.Dirty()) != api.MaxDirty {
			t.Errorf("%d are dirty", len(s.Dirty()))
		}
	}
	for n := range 3 {
		wantError(t, "a way, "+strconv.Itoa(n)+" more", dirtyBeside(t, api.MaxDirty-n), 16, val("00"), api.ErrTxn)
	}
	s := dirtyBeside(t, api.MaxDirty-3)
	wantItem(t, s, wantPut(t, s, 16, val("00")), val("00"))
	wantError(t, "nothing", dirtyBeside(t, api.MaxDirty), 0, val("a"), api.ErrTxn)
	wantError(t, "a leaf", dirtyBeside(t, api.MaxDirty), 2, val("a"), api.ErrTxn)
}
