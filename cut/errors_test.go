package cut_test

import (
	"errors"
	"slices"
	"strconv"
	"strings"
	"testing"

	"copyhold/api"
	"copyhold/cut"
	"copyhold/file"
	"copyhold/page"
	"copyhold/store"
)

// P12.1: a key that isn't there is ErrNone, in whatever place it would be, and also one that can't be a key.
func TestNotThere(t *testing.T) {
	pages := three()
	wrong := []string{"", strings.Repeat("k", 9), strings.Repeat("k", 100000), "b ", "\x00", "\xff", "B"}
	for _, key := range append(wrong, chars("adehijklopstwz")...) {
		for ofFile := range len(pages) + 1 {
			wantError(t, "not there", made(t, ofFile, pages...), 11, key, api.ErrNone)
		}
		wantError(t, "not there, no number left", storedAs(pages, 12, 12, nil), 11, key, api.ErrNone)
		wantError(t, "a leaf", stored(leaf("b g q")), 2, key, api.ErrNone)
		wantError(t, "nothing", stored(pages...), 0, key, api.ErrNone)
	}
	for _, key := range chars("bcfgmnqruvxy") {
		wantError(t, "nothing", stored(pages...), 0, key, api.ErrNone)
		other := 4
		if key < "k" {
			other = 7
		}
		wantError(t, "below another branch", stored(pages...), other, key, api.ErrNone)
		s := stored(pages...)
		wantError(t, "cut already", s, wantCut(t, s, 11, key), key, api.ErrNone)
	}
	wantError(t, "nothing at all", storedAs(nil, 2, 2, nil), 0, "a", api.ErrNone)
	wantError(t, "a full file", dirtyBeside(t, api.MaxDirty), 0, "a", api.ErrNone)
}

// P12.1: roots that can't be seen are ErrMap, those on which nothing is ErrCorrupt.
func TestWrongRoots(t *testing.T) {
	pages := []api.Page{leaf("a b"), leaf("c d"), branch("c", 2, 3)}
	for _, key := range []string{"", "a", "bb", "d", "z"} {
		for _, root := range []int{lowest, lowest + 1, -400, -2, -1, 1, 9, 10, 399, 400, 401, highest - 1, highest} {
			wantError(t, "a wrong root", storedAs(pages, 5, 9, nil), root, key, api.ErrMap)
			wantAllError(t, "a wrong root", storedAs(pages, 5, 9, nil), root, api.ErrMap)
		}
		for _, root := range []int{5, 8, 399} {
			wantError(t, "a root that is none", stored(pages...), root, key, api.ErrCorrupt)
			wantAllError(t, "a root that is none", stored(pages...), root, api.ErrCorrupt)
		}
		for _, root := range []int{-1, 1, 400} {
			wantError(t, "a wrong root", stored(pages...), root, key, api.ErrMap)
			wantAllError(t, "a wrong root", stored(pages...), root, api.ErrMap)
		}
		wantError(t, "a store that sees nothing", storedAs(pages, 5, 2, nil), 2, key, api.ErrMap)
		wantAllError(t, "a store that sees nothing", storedAs(pages, 5, 2, nil), 2, api.ErrMap)
	}
}

// wantAllError: All answers that error, and the store is as it was.
func wantAllError(t *testing.T, what string, s *store.Store, root int, want api.Errno) {
	t.Helper()
	was := view(s)
	err := cut.All(s, root)
	var number api.Errno
	if !errors.Is(err, want) || !errors.As(err, &number) || number != want {
		t.Errorf("%s: All(%d): %v; not %v", what, root, err, want)
	}
	if is := view(s); is != was {
		t.Errorf("%s: All(%d): the store was %s and is %s", what, root, was, is)
	}
}

// P12.1, P12.2: a child that can't be seen is ErrMap, where the way goes there; All comes to each.
func TestUnseenChild(t *testing.T) {
	pages := []api.Page{leaf("a b bb"), branch("c", 2, 390), branch("a", 390, 2), branch("k", 3, 3)}
	seen := func() *store.Store { return storedAs(pages, 6, 390, nil) }
	for _, key := range []string{"c", "d", "j"} {
		wantError(t, "the last child", seen(), 3, key, api.ErrMap)
		wantError(t, "a child's", seen(), 5, key, api.ErrMap)
	}
	wantError(t, "the first child", seen(), 4, "A", api.ErrMap)
	for root, key := range map[int]string{3: "a", 4: "b", 5: "bb"} {
		s := seen()
		wantCut(t, s, root, key)
		wantAllError(t, "a child", seen(), root, api.ErrMap)
	}
}

// P12.1: a page beside the way that can't be seen is ErrMap, where it is to be joined; where the page on the way has enough left, it isn't looked at.
func TestUnseenBeside(t *testing.T) {
	for _, kid := range []int{390, 391, api.MaxPages - 1} {
		pages := []api.Page{leaf("a b"), branch("d", 2, kid), branch("A", kid, 2), leaf("a b c"), branch("d", 5, kid)}
		seen := func() *store.Store { return storedAs(pages, 7, 390, nil) }
		for _, key := range chars("ab") {
			wantError(t, "the one behind", seen(), 3, key, api.ErrMap)
			wantError(t, "the one ahead", seen(), 4, key, api.ErrMap)
		}
		s := seen()
		wantPage(t, s, wantCut(t, s, 6, "b"), branch("d", 8, kid))
		wantPage(t, s, 8, leaf("a c"))
	}
}

// P12.1, P12.2: a page of another Kind, or what is no page, as a root, as a child, and as a child's child, on the file and dirty, is ErrCorrupt.
func TestOtherKinds(t *testing.T) {
	for _, other := range others() {
		what := "kind " + strconv.Itoa(other.Kind)
		pages := []api.Page{other, leaf("a b"), branch("c", 2, 2), branch("c", 3, 2), branch("c", 4, 4)}
		stores := map[string]func() *store.Store{", on the file": func() *store.Store { return stored(pages...) }}
		if page.Is(other) {
			stores[", dirty"] = func() *store.Store { return made(t, 0, pages...) }
		}
		for where, fresh := range stores {
			for _, key := range []string{"", "A", "a", "c", "z"} {
				wantError(t, what+where+", a root", fresh(), 2, key, api.ErrCorrupt)
				wantError(t, what+where+", a child", fresh(), 4, key, api.ErrCorrupt)
				wantError(t, what+where+", a child's", fresh(), 6, key, api.ErrCorrupt)
			}
			wantError(t, what+where+", the last child", fresh(), 5, "c", api.ErrCorrupt)
			for _, root := range []int{2, 4, 5, 6} {
				wantAllError(t, what+where, fresh(), root, api.ErrCorrupt)
			}
		}
	}
}

// P12.1: beside a leaf that is to be joined a page of another Kind, a branch too, or what is no page, is ErrCorrupt, behind it and ahead, also where nothing of the leaf is left, or no number for the other page; where the leaf has enough left, it isn't looked at.
func TestOtherKindsBesideLeaves(t *testing.T) {
	for i, other := range append(others(), branch("x", 3, 3)) {
		what := "page " + strconv.Itoa(i)
		pages := []api.Page{other, leaf("m n"), branch("x", 3, 2), branch("k", 2, 3), leaf("m n o"), branch("x", 6, 2), leaf("m"), branch("x", 8, 2), branch("k", 2, 8)}
		stores := []func() *store.Store{
			func() *store.Store { return stored(pages...) },
			func() *store.Store { return made(t, 1, pages...) },
			func() *store.Store { return storedAs(pages, 11, 13, nil) },
		}
		if page.Is(other) {
			stores = append(stores, func() *store.Store { return made(t, 0, pages...) })
		}
		for _, fresh := range stores {
			for _, key := range chars("mn") {
				wantError(t, what+", behind", fresh(), 4, key, api.ErrCorrupt)
				wantError(t, what+", ahead", fresh(), 5, key, api.ErrCorrupt)
			}
			wantError(t, what+", behind nothing", fresh(), 9, "m", api.ErrCorrupt)
			wantError(t, what+", ahead of nothing", fresh(), 10, "m", api.ErrCorrupt)
			s := fresh()
			root := wantCut(t, s, 7, "n")
			wantPage(t, s, root, branch("x", wayOf(t, s, root, "m")[1], 2))
			wantItem(t, s, root, val("o"))
		}
	}
}

// P12.1: likewise beside a branch, a leaf too.
func TestOtherKindsBesideBranches(t *testing.T) {
	for i, other := range append(others(), leaf("x y")) {
		what := "page " + strconv.Itoa(i)
		pages := []api.Page{other, leaf("m n"), leaf("p q"), branch("o", 3, 4), branch("x", 5, 2), branch("k", 2, 5), leaf("s t"), branch("o r", 3, 4, 8), branch("x", 9, 2)}
		stores := []func() *store.Store{func() *store.Store { return stored(pages...) }, func() *store.Store { return made(t, 1, pages...) }}
		if page.Is(other) {
			stores = append(stores, func() *store.Store { return made(t, 0, pages...) })
		}
		for _, fresh := range stores {
			for _, key := range chars("mnpq") {
				wantError(t, what+", behind", fresh(), 6, key, api.ErrCorrupt)
				wantError(t, what+", ahead", fresh(), 7, key, api.ErrCorrupt)
			}
			s := fresh()
			root := wantCut(t, s, 10, "n")
			wantPage(t, s, root, branch("x", wayOf(t, s, root, "m")[1], 2))
			wantItem(t, s, root, val("q"))
		}
	}
}

// P12.1, P12.2: bytes that were a page, but for one of them, are corrupt, on the way and beside it; so is a number of Run that isn't Set yet.
func TestBrokenBytes(t *testing.T) {
	good := textsOf([]api.Page{leaf("a b"), leaf("c d"), branch("c", 2, 3)})
	for id := 2; id <= 4; id++ {
		for _, bad := range []string{"", good[id][:len(good[id])-1], good[id] + "\x00", good[id][1:], strings.Replace(good[id], string(good[id][len(good[id])-1]), "x", 1), "PLeaf"} {
			texts := slices.Clone(good)
			texts[id] = bad
			for _, key := range chars("abcd") {
				wantError(t, "page "+strconv.Itoa(id)+" is broken", store.New(file.New(texts), 5, api.MaxPages, nil), 4, key, api.ErrCorrupt)
			}
			wantAllError(t, "page "+strconv.Itoa(id)+" is broken", store.New(file.New(texts), 5, api.MaxPages, nil), 4, api.ErrCorrupt)
		}
	}
	for id := 2; id <= 4; id++ {
		s := store.New(file.New(good), 5, api.MaxPages, []int{id})
		if got, err := s.Run(1); got != id || err != nil {
			t.Fatalf("Run: %d, %v", got, err)
		}
		wantError(t, "not Set yet", s, 4, "b", api.ErrCorrupt)
		wantError(t, "not Set yet", s, 4, "c", api.ErrCorrupt)
		wantAllError(t, "not Set yet", s, 4, api.ErrCorrupt)
	}
}

// P12.1: where the tree isn't right, so that what is joined can't be a page, the answer is ErrCorrupt.
func TestWrongTrees(t *testing.T) {
	for what, c := range map[string]struct {
		key   string
		pages []api.Page // the first one, 2, is the root
	}{
		"the same leaf twice":            {"c", []api.Page{branch("b", 3, 3), leaf("b c")}},
		"the same leaf twice, the first": {"B", []api.Page{branch("b", 3, 3), leaf("A B")}},
		"keys above those behind":        {"c", []api.Page{branch("b", 3, 4), leaf("x y"), leaf("b c")}},
		"keys below those ahead":         {"B", []api.Page{branch("b", 3, 4), leaf("A B"), leaf("1 2")}},
		"the first half falls":           {"B", []api.Page{branch("b", 3, 4), leaf("A B"), leaf("1 2 3 4")}},
		"the rest falls":                 {"c", []api.Page{branch("b", 3, 4), leaf("1 2 3 z"), leaf("b c")}},
		"a key twice":                    {"c", []api.Page{branch("b", 3, 4), leaf("A b"), leaf("b c")}},
		"a branch's keys above":          {"c", []api.Page{branch("b", 3, 4), branch("m", 5, 6), branch("k", 7, 8), leaf("A B"), leaf("n o"), leaf("b c"), leaf("k l")}},
		"a branch's key that falls":      {"B", []api.Page{branch("b z", 3, 4, 5), leaf("A B"), leaf("b c zx zy"), leaf("z zz")}},
	} {
		for ofFile := range len(c.pages) + 1 {
			wantError(t, what, made(t, ofFile, c.pages...), 2, c.key, api.ErrCorrupt)
		}
	}
}

// P12.1: where what is available is in use by the tree all the same, the way may come to what was made; the call comes back, an error changes nothing.
func TestAvailableInUse(t *testing.T) {
	pages := append(deep(4), leaf("x"))
	for id := 2; id <= 16; id++ {
		for _, more := range [][]int{{id}, {id, id + 1}, {2, id}, {id, 16}, upTo(id, 16)} {
			for key := 1000; key <= 1015; key++ {
				s := storedAs(pages, 18, api.MaxPages, more)
				wantBack(t, "available in use", s, 16, strconv.Itoa(key))
			}
		}
	}
	for _, key := range chars("ab") {
		wantError(t, "the leaf's is taken for the root", storedAs([]api.Page{leaf("a b"), leaf("m n"), branch("k", 2, 3)}, 5, api.MaxPages, []int{2}), 4, key, api.ErrCorrupt)
	}
}

// wantBack: the call comes back; an error is one of the chapter, and changes nothing.
func wantBack(t *testing.T, what string, s *store.Store, root int, key string) {
	t.Helper()
	_, err := cut.Cut(s.Copy(), root, key)
	if err == nil {
		return
	}
	var number api.Errno
	if !errors.As(err, &number) || !slices.Contains([]api.Errno{api.ErrCorrupt, api.ErrMap, api.ErrTxn, api.ErrNone}, number) {
		t.Errorf("%s: Cut(%d, %q): %v", what, root, key, err)
	}
	wantError(t, what, s, root, key, number)
}

// deep gives the pages of a tree so deep, each page with two keys or children, the root the last one.
func deep(depth int) []api.Page {
	var pages []api.Page
	for i := range 1 << (depth - 1) {
		pages = append(pages, leaf(strconv.Itoa(1000+2*i)+" "+strconv.Itoa(1001+2*i)))
	}
	for first, n := 0, len(pages); n > 1; n /= 2 {
		wide := 1 << depth / n // leaves' keys under two children
		for i := range n / 2 {
			pages = append(pages, branch(strconv.Itoa(1000+i*2*wide+wide), 2+first+2*i, 3+first+2*i))
		}
		first += n
	}
	return pages
}

// P12.1, P12.2: trees of up to eight deep: where all pages have Least, all of the way are joined, and it is one less deep.
func TestEightDeep(t *testing.T) {
	for depth := 1; depth <= 8; depth++ {
		pages := deep(depth)
		root, last := 1+len(pages), 999+1<<depth
		for _, key := range []int{1000, 1001, 1000 + 1<<depth/2, last - 1, last} {
			s := stored(pages...)
			top := wantCut(t, s, root, strconv.Itoa(key))
			var left []string
			for other := 1000; other <= last; other++ {
				if other != key {
					left = append(left, strconv.Itoa(other))
				}
			}
			wantKeys(t, s, top, left)
			if way := wayOf(t, s, top, left[0]); len(way) != max(depth-1, 1) {
				t.Errorf("%d deep, %d: the way is %v", depth, key, way)
			}
			if depth > 1 && (len(s.Dirty()) != depth-1 || len(s.Freed()) != 2*depth-1 || len(s.Avail()) != 2) {
				t.Errorf("%d deep, %d: dirty %v, freed %v, available %v", depth, key, s.Dirty(), s.Freed(), s.Avail())
			}
		}
		s := stored(pages...)
		if err := cut.All(s, root); err != nil || !slices.Equal(s.Freed(), upTo(2, root)) {
			t.Errorf("%d deep: %v, freed %v", depth, err, s.Freed())
		}
	}
}

// P12.1, P12.2: no tree is nine deep: such a one is refused, and comes back.
func TestNineDeep(t *testing.T) {
	pages := []api.Page{leaf("a b m n")}
	for i := range 20 {
		pages = append(pages, branch("k", 2+i, 2+i))
	}
	for root := 2; root <= 22; root++ {
		for _, key := range chars("abmnz") {
			switch {
			case root > 9:
				wantError(t, "nine deep", stored(pages...), root, key, api.ErrCorrupt)
				wantError(t, "nine deep", made(t, 0, pages...), root, key, api.ErrCorrupt)
			case key == "z":
				wantError(t, "eight deep", stored(pages...), root, key, api.ErrNone)
			default:
				wantCut(t, stored(pages...), root, key)
			}
		}
		if root > 9 {
			wantAllError(t, "nine deep", stored(pages...), root, api.ErrCorrupt)
		}
	}
}

// P12.1, P12.2: pages that come back to themselves, on the way and beside it: each call comes back, and an error changes nothing.
func TestCycles(t *testing.T) {
	for what, pages := range map[string][]api.Page{
		"itself":                    {branch("k", 2, 2)},
		"itself, first":             {branch("k", 2, 3), leaf("m n")},
		"itself, last":              {branch("k", 3, 2), leaf("a b")},
		"itself, in the midst":      {branch("g m", 3, 2, 4), leaf("a b"), leaf("m n")},
		"each other":                {branch("k", 4, 3), branch("m", 5, 2), leaf("a b"), leaf("k l")},
		"three of them":             {branch("k", 5, 3), branch("m", 5, 4), branch("p", 5, 2), leaf("a b")},
		"all the children":          {branch("b c d", 3, 3, 3, 3), branch("b c d", 2, 2, 2, 2)},
		"the root's grandfather":    {branch("k", 3, 3), branch("k", 4, 4), branch("k", 2, 2)},
		"beside a leaf":             {branch("k", 3, 2), leaf("a b")},
		"ahead of a leaf":           {branch("k", 2, 3), leaf("k l")},
		"beside a branch":           {branch("k", 3, 2), branch("b", 4, 5), leaf("a aa"), leaf("b c")},
		"ahead of a branch":         {branch("k", 2, 3), branch("m", 4, 5), leaf("k l"), leaf("m n")},
		"beside two":                {branch("k", 3, 3), branch("b", 4, 5), leaf("a aa"), leaf("b k")},
		"a branch under itself":     {branch("k", 3, 4), branch("b", 5, 3), branch("x", 6, 4), leaf("a aa"), leaf("k l")},
		"the root beside its child": {branch("c k", 3, 2, 4), branch("b", 5, 2), branch("m", 6, 2), leaf("a aa"), leaf("k l")},
	} {
		for _, key := range chars("abcdgklmnpqxyz") {
			for _, s := range []*store.Store{
				stored(pages...), made(t, 0, pages...), made(t, 1, pages...), made(t, len(pages)-1, pages...),
				storedAs(pages, 2+len(pages), api.MaxPages, upTo(2, 6)),
				storedAs(pages, 2+len(pages), 2+len(pages)+2, nil),
			} {
				wantBack(t, what, s, 2, key)
			}
		}
		if what != "beside two" {
			wantAllError(t, what, stored(pages...), 2, api.ErrCorrupt)
			wantAllError(t, what+", dirty", made(t, 0, pages...), 2, api.ErrCorrupt)
		}
	}
	for _, key := range chars("aky") {
		wantError(t, "itself", stored(branch("k", 2, 2)), 2, key, api.ErrCorrupt)
		wantError(t, "itself, dirty", made(t, 0, branch("k", 2, 2)), 2, key, api.ErrCorrupt)
		wantError(t, "each other", stored(branch("k", 3, 3), branch("k", 2, 2)), 2, key, api.ErrCorrupt)
	}
	for _, key := range chars("ab") {
		wantError(t, "the root beside a leaf", stored(branch("k", 3, 2), leaf("a b")), 2, key, api.ErrCorrupt)
		wantError(t, "the root beside a leaf, dirty", made(t, 0, branch("k", 3, 2), leaf("a b")), 2, key, api.ErrCorrupt)
	}
}

// needs tells how many new numbers, and how many more dirty pages, a key of a tree so deep needs where all pages have Least: the way's, and one more, since each that is Dropped below is taken above.
func needs(depth int) int {
	if depth == 1 {
		return 1
	}
	return depth + 1
}

// P12.1: where numbers lack, the answer is ErrMap, for which page of the way or beside it whatever, and nothing is changed; with just enough it is none.
func TestNoNumber(t *testing.T) {
	for depth := 1; depth <= 6; depth++ {
		pages := deep(depth)
		root, last, need := 1+len(pages), 2+len(pages), needs(depth)
		texts := append(textsOf(pages), make([]string, need)...)
		for n := range need + 2 {
			for what, s := range map[string]*store.Store{
				"at the end": store.New(file.New(texts), last, last+n, nil),
				"available":  store.New(file.New(texts), last+need+1, last+need+1, upTo(last, last+n-1)),
				"both":       store.New(file.New(texts), last+n/2, last+n, upTo(last, last+n/2-1)),
			} {
				for _, key := range []string{"1000", "1001"} {
					if n < need {
						wantError(t, strconv.Itoa(depth)+" deep, "+what+", "+strconv.Itoa(n), s, root, key, api.ErrMap)
						continue
					}
					wantCut(t, s.Copy(), root, key)
				}
			}
		}
	}
	wantError(t, "two that are halved", storedAs([]api.Page{leaf("a b c d"), leaf("m n"), branch("k", 2, 3)}, 5, 7, nil), 4, "m", api.ErrMap)
}

// dirtyBeside gives a store over a file of these pages, with so many dirty pages that aren't the tree's.
func dirtyBeside(t *testing.T, n int, pages ...api.Page) *store.Store {
	t.Helper()
	s := stored(pages...)
	for range n {
		if _, err := s.Add(api.Page{Kind: api.POver, Text: "x"}); err != nil {
			t.Fatal(err)
		}
	}
	return s
}

// P12.1: where more than MaxDirty pages would be dirty, the answer is ErrTxn, for which page whatever, and nothing is changed; with just as many as may be it is none.
func TestTooManyDirty(t *testing.T) {
	for depth := 1; depth <= 6; depth++ {
		pages := deep(depth)
		for n := range needs(depth) + 2 {
			s := dirtyBeside(t, api.MaxDirty-n, pages...)
			if n < needs(depth) {
				wantError(t, strconv.Itoa(depth)+" deep, "+strconv.Itoa(n)+" more", s, 1+len(pages), "1000", api.ErrTxn)
				continue
			}
			wantCut(t, s, 1+len(pages), "1000")
		}
	}
	s := dirtyBeside(t, api.MaxDirty-3, leaf("a b c d"), leaf("m n"), branch("k", 2, 3))
	wantShape(t, s, wantCut(t, s, 4, "m"), "[(a b c)(d n)]")
	if len(s.Dirty()) != api.MaxDirty {
		t.Errorf("%d are dirty", len(s.Dirty()))
	}
}

// P12.1, P12.2: where all pages are dirty already, no number is needed.
func TestNoNumberIsNeeded(t *testing.T) {
	small := storedAs(nil, 2, 17, nil)          // 15 numbers
	full := storedAs(nil, 2, api.MaxPages, nil) // as many dirty pages as may be
	for beside, s := range map[int]*store.Store{0: small, api.MaxDirty - 15: full} {
		for _, p := range slices.Concat(deep(4), slices.Repeat([]api.Page{leaf("x")}, beside)) {
			if _, err := s.Add(p); err != nil {
				t.Fatal(err)
			}
		}
		for _, key := range []string{"1000", "1006", "1015"} {
			wantCut(t, s.Copy(), 16, key)
		}
		root := 16
		for key := 1000; key <= 1015; key++ {
			root = wantCut(t, s, root, strconv.Itoa(key))
		}
		if root != 0 || !slices.Equal(s.Avail(), upTo(2, 16)) || len(s.Freed()) > 0 || len(s.Dirty()) != beside {
			t.Errorf("the root is %d; dirty %v, freed %v, available %v", root, s.Dirty(), s.Freed(), s.Avail())
		}
	}
}
