package find_test

import (
	"errors"
	"math"
	"slices"
	"strconv"
	"strings"
	"testing"

	"copyhold/api"
	"copyhold/file"
	"copyhold/find"
	"copyhold/page"
	"copyhold/store"
)

const (
	lowest  = math.MinInt
	highest = math.MaxInt
)

func val(key string) api.Item { return api.Item{Key: key, Kind: api.IVal, Val: "v" + key} }

func long(key string, run, n int) api.Item {
	return api.Item{Key: key, Kind: api.ILong, Run: run, Len: n}
}

func many(key string, vals ...string) api.Item {
	return api.Item{Key: key, Kind: api.IDup, Vals: vals}
}

func manyOn(key string, id int) api.Item { return api.Item{Key: key, Kind: api.IDup, Dup: id} }

func root(key string, id, count, flags int) api.Item {
	return api.Item{Key: key, Kind: api.IRoot, Root: api.Root{Page: id, Count: count, Flags: flags}}
}

func leafOf(items ...api.Item) api.Page { return api.Page{Kind: api.PLeaf, Items: items} }

// leaf gives a leaf of keys with a blank between.
func leaf(keys string) api.Page {
	p := api.Page{Kind: api.PLeaf}
	for _, key := range strings.Fields(keys) {
		p.Items = append(p.Items, val(key))
	}
	return p
}

// branch gives a branch with these keys behind the first one, a blank between.
func branch(keys string, kids ...int) api.Page {
	return api.Page{Kind: api.PBranch, Keys: append([]string{""}, strings.Fields(keys)...), Kids: kids}
}

var (
	overPage = api.Page{Kind: api.POver, Text: "x"}
	dupPage  = api.Page{Kind: api.PDup, Vals: []string{"a", "b", "c", "d"}}
	freePage = api.Page{Kind: api.PFree, Free: []api.Free{{Txn: 1, IDs: []int{2, 4}}}}
	metaPage = api.Page{Kind: api.PMeta, Meta: api.Meta{Txn: 4, Last: 12}}
	noPage   = api.Page{} // its bytes are none, and so are no page
)

// fileOf gives a file of these pages, from number 2 on.
func fileOf(pages []api.Page) *file.File {
	texts := []string{"", ""}
	for _, p := range pages {
		texts = append(texts, page.Bytes(p))
	}
	return file.New(texts)
}

// stored gives a store over a file of these pages, from number 2 on; all numbers can be seen.
func stored(pages ...api.Page) *store.Store {
	return store.New(fileOf(pages), 2+len(pages), api.MaxPages, nil)
}

// made gives a store that has these pages, from number 2 on, the first ones of the file, the others dirty.
func made(t *testing.T, ofFile int, pages []api.Page) *store.Store {
	t.Helper()
	s := stored(pages[:ofFile]...)
	for i, p := range pages[ofFile:] {
		if id, err := s.Add(p); err != nil || id != 2+ofFile+i {
			t.Fatalf("Add: %d, %v", id, err)
		}
	}
	return s
}

// garden: pages that are grown from shapes, from number 2 on.
type garden struct{ pages []api.Page }

func (g *garden) add(p api.Page) int {
	g.pages = append(g.pages, p)
	return 1 + len(g.pages)
}

// grow adds the pages of the shape that text begins with, children ahead of their parent; it gives the root's number, the tree's first key and the rest of text.
//
// A shape: of a leaf its keys in round brackets; of a branch its children in square ones, between two of them the key of the second, or nothing, where that is its first one.
func (g *garden) grow(text string) (id int, first, rest string) {
	if text[0] == '(' {
		keys, rest, _ := strings.Cut(text[1:], ")")
		return g.add(leaf(keys)), strings.Fields(keys)[0], rest
	}
	p := api.Page{Kind: api.PBranch}
	for rest = text[1:]; rest[0] != ']'; {
		at := strings.IndexAny(rest, "[(")
		key := rest[:at]
		var kid int
		var low string
		kid, low, rest = g.grow(rest[at:])
		if len(p.Kids) == 0 {
			first, low = low, ""
		}
		if key != "" {
			low = key
		}
		p.Kids, p.Keys = append(p.Kids, kid), append(p.Keys, low)
	}
	return g.add(p), first, rest[1:]
}

// grown gives the pages of a shape, the root the last of them, and its number.
func grown(shape string) ([]api.Page, int) {
	var g garden
	id, _, _ := g.grow(shape)
	return g.pages, id
}

// keysOf gives the keys of the leaves of these pages, rising.
func keysOf(pages []api.Page) []string {
	var keys []string
	for _, p := range pages {
		for _, it := range p.Items {
			keys = append(keys, it.Key)
		}
	}
	slices.Sort(keys)
	return keys
}

// asked gives keys to ask for: all that these pages have, of branches, too, what lies right beside each, and some that lie far from any.
func asked(pages []api.Page) []string {
	keys := []string{"", "\x00", "\xff", "\xff\xff\xff\xff\xff\xff\xff\xff", "\xff\xff\xff\xff\xff\xff\xff\xff\xff", strings.Repeat("m", 1000)}
	for _, p := range pages {
		for _, key := range slices.Concat(p.Keys, keysOf([]api.Page{p})) {
			keys = append(keys, key, key+"\x00", key+"\xff", key[:max(len(key), 1)-1], "\x00"+key)
			if key != "" {
				last := len(key) - 1
				keys = append(keys, key[:last]+string([]byte{key[last] - 1}), key[:last]+string([]byte{key[last] - 1, 255}), key[:last]+string([]byte{key[last] + 1}))
			}
		}
	}
	slices.Sort(keys)
	return slices.Compact(keys)
}

// full gives the shape of a tree that is so deep, with two keys in a leaf and two children under a branch; the keys go on from n on, rising by two.
func full(depth int, n *int) string {
	if depth == 1 {
		*n += 4
		return "(" + strconv.Itoa(100000+*n-4) + " " + strconv.Itoa(100000+*n-2) + ")"
	}
	return "[" + full(depth-1, n) + full(depth-1, n) + "]"
}

func sameItem(a, b api.Item) bool {
	return page.Same(api.Page{Items: []api.Item{a}}, api.Page{Items: []api.Item{b}})
}

var none = api.Item{} // what is told where there is none

// call: one of the three.
type call struct {
	name string
	ask  func(*store.Store, int, string) (api.Item, error)
}

func calls() []call { return []call{{"Get", find.Get}, {"Above", find.Above}, {"Behind", find.Behind}} }

// wantItem: the call answers this item, or, if it is none, ErrNone beside it.
func (c call) wantItem(t *testing.T, s *store.Store, root int, key string, want api.Item) {
	t.Helper()
	got, err := c.ask(s, root, key)
	if !sameItem(got, want) || (want.Kind == 0) != errors.Is(err, api.ErrNone) || want.Kind != 0 && err != nil {
		t.Errorf("%s(%d, %q): %v, %v; not %v", c.name, root, key, got, err, want)
	}
}

func (c call) wantError(t *testing.T, what string, s *store.Store, root int, key string, want api.Errno) {
	t.Helper()
	got, err := c.ask(s, root, key)
	var number api.Errno
	if !sameItem(got, none) || !errors.Is(err, want) || !errors.As(err, &number) || number != want {
		t.Errorf("%s: %s(%d, %q): %v, %v; not %v", what, c.name, root, key, got, err, want)
	}
}

// wantItems: what the three calls answer.
func wantItems(t *testing.T, s *store.Store, root int, key string, want ...api.Item) {
	t.Helper()
	for i, c := range calls() {
		c.wantItem(t, s, root, key, want[i])
	}
}

// wantKeys: the keys of what the three calls answer, - where there is none.
func wantKeys(t *testing.T, s *store.Store, root int, key, get, above, behind string) {
	t.Helper()
	var items []api.Item
	for _, key := range []string{get, above, behind} {
		if key == "-" {
			items = append(items, none)
		} else {
			items = append(items, val(key))
		}
	}
	wantItems(t, s, root, key, items...)
}

// wantError: all three calls answer this error, and the zero item beside it.
func wantError(t *testing.T, what string, s *store.Store, root int, key string, want api.Errno) {
	t.Helper()
	for _, c := range calls() {
		c.wantError(t, what, s, root, key, want)
	}
}

// wantOf holds the three calls against all items of root's tree, rising by key.
func wantOf(t *testing.T, s *store.Store, root int, key string, items []api.Item) {
	t.Helper()
	get, above, behind := none, none, none
	for _, it := range slices.Backward(items) {
		if it.Key == key {
			get = it
		}
		if it.Key >= key {
			above = it
		}
		if it.Key > key {
			behind = it
		}
	}
	wantItems(t, s, root, key, get, above, behind)
}

func valsOf(keys []string) []api.Item {
	var items []api.Item
	for _, key := range keys {
		items = append(items, val(key))
	}
	return items
}

// P10.1: nothing hangs on root 0, whatever the store has.
func TestNothing(t *testing.T) {
	for _, s := range []*store.Store{
		stored(), stored(leaf("a b")), stored(overPage, noPage), store.New(fileOf(nil), 2, 2, nil), store.New(file.New(nil), 400, 400, nil),
	} {
		for _, key := range []string{"", "a", "b", "\xff", "longer than any key"} {
			wantKeys(t, s, 0, key, "-", "-", "-")
		}
	}
}

// P10.1: a leaf alone, of one to four keys.
func TestLeaf(t *testing.T) {
	s := stored(leaf("f"), leaf("b f"), leaf("b d f h"))
	for _, c := range []struct {
		root                    int
		key, get, above, behind string
	}{
		{2, "", "-", "f", "f"}, {2, "e", "-", "f", "f"}, {2, "f", "f", "f", "-"}, {2, "f\x00", "-", "-", "-"}, {2, "g", "-", "-", "-"},
		{3, "a", "-", "b", "b"}, {3, "b", "b", "b", "f"}, {3, "c", "-", "f", "f"}, {3, "f", "f", "f", "-"}, {3, "ff", "-", "-", "-"},
		{4, "", "-", "b", "b"}, {4, "a", "-", "b", "b"}, {4, "b", "b", "b", "d"}, {4, "c", "-", "d", "d"}, {4, "d", "d", "d", "f"},
		{4, "e", "-", "f", "f"}, {4, "f", "f", "f", "h"}, {4, "g", "-", "h", "h"}, {4, "h", "h", "h", "-"}, {4, "i", "-", "-", "-"},
	} {
		wantKeys(t, s, c.root, c.key, c.get, c.above, c.behind)
	}
}

// P10.1, P10.2: trees of two and three deep, of the file's pages, of dirty ones, and of both: keys below all, above all, between two of a leaf, between the last of a leaf and the first of the next, under the same branch and under another, and those of the branches.
func TestTrees(t *testing.T) {
	for shape, want := range map[string][]struct{ key, get, above, behind string }{
		"[(b d)(g i k)]": {
			{"", "-", "b", "b"}, {"a", "-", "b", "b"}, {"b", "b", "b", "d"}, {"c", "-", "d", "d"}, {"d", "d", "d", "g"}, {"d\x00", "-", "g", "g"},
			{"f", "-", "g", "g"}, {"g", "g", "g", "i"}, {"h", "-", "i", "i"}, {"i", "i", "i", "k"}, {"k", "k", "k", "-"}, {"k\x00", "-", "-", "-"},
		},
		"[(b d)f(g i)l(m o)q(s u)]": {
			{"d", "d", "d", "g"}, {"e", "-", "g", "g"}, {"f", "-", "g", "g"}, {"ff", "-", "g", "g"}, {"i", "i", "i", "m"}, {"k", "-", "m", "m"},
			{"l", "-", "m", "m"}, {"o", "o", "o", "s"}, {"p", "-", "s", "s"}, {"q", "-", "s", "s"}, {"r", "-", "s", "s"}, {"u", "u", "u", "-"}, {"v", "-", "-", "-"},
		},
		"[[(b d)f(g i)]l[(m o)r(s u w)]]": {
			{"", "-", "b", "b"}, {"a", "-", "b", "b"}, {"b", "b", "b", "d"}, {"d", "d", "d", "g"}, {"e", "-", "g", "g"}, {"f", "-", "g", "g"},
			{"i", "i", "i", "m"}, {"j", "-", "m", "m"}, {"l", "-", "m", "m"}, {"m", "m", "m", "o"}, {"n", "-", "o", "o"}, {"o", "o", "o", "s"},
			{"q", "-", "s", "s"}, {"r", "-", "s", "s"}, {"s", "s", "s", "u"}, {"w", "w", "w", "-"}, {"x", "-", "-", "-"},
		},
		"[[(b d)(g i)][(m o)(s u)][(w x)(y z)]]": {
			{"i", "i", "i", "m"}, {"k", "-", "m", "m"}, {"m", "m", "m", "o"}, {"u", "u", "u", "w"}, {"v", "-", "w", "w"}, {"w", "w", "w", "x"},
			{"x", "x", "x", "y"}, {"xx", "-", "y", "y"}, {"z", "z", "z", "-"}, {"zz", "-", "-", "-"},
		},
		"[[[(b d)e(f g)]h[(i k)l(m n)]]p[[(q r)s(t u)]v[(w x)y(yy z)]]]": {
			{"g", "g", "g", "i"}, {"gg", "-", "i", "i"}, {"h", "-", "i", "i"}, {"n", "n", "n", "q"}, {"o", "-", "q", "q"}, {"p", "-", "q", "q"}, {"pp", "-", "q", "q"},
			{"u", "u", "u", "w"}, {"uu", "-", "w", "w"}, {"v", "-", "w", "w"}, {"y", "-", "yy", "yy"}, {"z", "z", "z", "-"}, {"zz", "-", "-", "-"},
		},
	} {
		pages, root := grown(shape)
		for ofFile := range len(pages) + 1 {
			s := made(t, ofFile, pages)
			for _, c := range want {
				wantKeys(t, s, root, c.key, c.get, c.above, c.behind)
			}
		}
	}
}

// P10.1: keys are held against each other byte by byte; a key that is longer than any, or the empty one, is asked for like another.
func TestKeysByBytes(t *testing.T) {
	for _, shape := range []string{
		"(a b c d)", "(a aa aaa aaaa)", "(B a b)", "(\x00 \x01 \x7f \xff)",
		"[(\x00 \x00\x00)(12345678 é)(\xff \xff\xff\xff\xff\xff\xff\xff)]",
		"[(\x00\x00 \x01)\x01\x00(\x02 é)\xff(\xff\x00 \xff\xff)]",
		"[(a aa)aaa(aaaa ab)b(ba c)]",
		"[(a b)d\x00(d1 d2)(d3 d4)(z zz)]",
		"[[(b d)e(f g)h(i j)k(l m)][(n o)p(q r)]t[(u v)(w x)]]",
		"[[(b d)dd(f g)gg(i j)jj(l m)]mm[(n o)oo(q r)]rr[(u v)(w x)]xx[(y1 y2)(y3 y4)z(zz zzz)]]",
		"[[[(b d)e(f g)]h[(i k)l(m n)]]p[[(q r)s(t u)]v[(w x)y(yy z)]]]",
	} {
		pages, root := grown(shape)
		items := valsOf(keysOf(pages))
		for _, ofFile := range []int{0, len(pages) / 2, len(pages)} {
			s := made(t, ofFile, pages)
			for _, key := range asked(pages) {
				wantOf(t, s, root, key, items)
			}
		}
	}
}

// P10.1: where pages lie says nothing of where their keys are.
func TestPagesInAnyOrder(t *testing.T) {
	pages := []api.Page{leaf("a b"), branch("c", 2, 5), branch("e", 3, 8), leaf("c d"), leaf("g h"), leaf("e f"), branch("g", 7, 6)}
	s := stored(pages...)
	for _, key := range asked(pages) {
		wantOf(t, s, 4, key, valsOf(keysOf(pages)))
	}
}

// P10.1: items of each kind are told as they are, all parts of them; what hangs on them isn't looked at.
func TestItemsOfEachKind(t *testing.T) {
	one := []api.Item{val("a"), long("b", 20, 201), many("c", "x", "y", "z"), root("d", 30, 1000000, api.FDup)}
	two := []api.Item{manyOn("f", 9), root("g", 0, 0, 0), long("h", 399, 1000), {Key: "i", Kind: api.IVal}}
	pages := []api.Page{leafOf(one...), leafOf(two...), branch("e", 2, 3)}
	for ofFile := range 4 {
		s := made(t, ofFile, pages)
		for _, key := range asked(pages) {
			wantOf(t, s, 4, key, slices.Concat(one, two))
			wantOf(t, s, 2, key, one)
			wantOf(t, s, 3, key, two)
		}
	}
}

// P10.2: each page of a tree is a root, too: what doesn't hang on it isn't found, though it lies in the same store.
func TestPartsOfATree(t *testing.T) {
	pages, root := grown("[[(b d)f(g i)]l[(m o)r(s u w)]]") // leaves 2, 3, their branch 4, leaves 5, 6, their branch 7, the root 8
	s := stored(append(pages, leaf("a e n z"))...)
	for at, part := range map[int][]api.Page{
		2: pages[0:1], 3: pages[1:2], 4: pages[0:2], 5: pages[3:4], 6: pages[4:5], 7: pages[3:5], root: pages, 9: {leaf("a e n z")},
	} {
		for _, key := range asked(append(pages, leaf("a e n z"))) {
			wantOf(t, s, at, key, valsOf(keysOf(part)))
		}
	}
}

// P10.2: the search goes down from the root: a page beside the way isn't asked for, whatever it is.
func TestBesideTheWay(t *testing.T) {
	good, root := grown("[[(b d)f(g i)]l[(m o)r(s u w)]]") // leaves 2, 3, their branch 4, leaves 5, 6, their branch 7
	for _, c := range []struct {
		key  string
		ask  call
		way  []int // but the root
		want api.Item
	}{
		{"b", calls()[0], []int{4, 2}, val("b")},
		{"c", calls()[0], []int{4, 2}, none},
		{"e", calls()[0], []int{4, 2}, none},
		{"f", calls()[0], []int{4, 3}, none},
		{"k", calls()[0], []int{4, 3}, none},
		{"m", calls()[0], []int{7, 5}, val("m")},
		{"z", calls()[0], []int{7, 6}, none},
		{"a", calls()[1], []int{4, 2}, val("b")},
		{"d", calls()[1], []int{4, 2}, val("d")},
		{"e", calls()[1], []int{4, 2, 3}, val("g")},
		{"f", calls()[1], []int{4, 3}, val("g")},
		{"k", calls()[1], []int{4, 3, 7, 5}, val("m")},
		{"p", calls()[1], []int{7, 5, 6}, val("s")},
		{"z", calls()[1], []int{7, 6}, none},
		{"b", calls()[2], []int{4, 2}, val("d")},
		{"d", calls()[2], []int{4, 2, 3}, val("g")},
		{"i", calls()[2], []int{4, 3, 7, 5}, val("m")},
		{"l", calls()[2], []int{7, 5}, val("m")},
		{"w", calls()[2], []int{7, 6}, none},
	} {
		for _, bad := range []api.Page{noPage, overPage} {
			pages := slices.Clone(good)
			for id := 2; id < root; id++ {
				if !slices.Contains(c.way, id) {
					pages[id-2] = bad
				}
			}
			c.ask.wantItem(t, stored(pages...), root, c.key, c.want)
			for _, id := range c.way {
				hurt := slices.Clone(good)
				hurt[id-2] = bad
				c.ask.wantError(t, "page "+strconv.Itoa(id), stored(hurt...), root, c.key, api.ErrCorrupt)
			}
		}
	}
}

// P10.1: trees of one to eight deep, each key of them.
func TestEightDeep(t *testing.T) {
	for depth := 1; depth <= 8; depth++ {
		n := 0
		pages, root := grown(full(depth, &n))
		s := stored(pages...)
		for i := 0; i < n; i += 2 {
			key, next := strconv.Itoa(100000+i), strconv.Itoa(100000+i+2)
			if i+2 == n {
				next = "-"
			}
			wantKeys(t, s, root, key, key, key, next)
			wantKeys(t, s, root, strconv.Itoa(100000+i+1), "-", next, next)
		}
		wantKeys(t, s, root, "", "-", "100000", "100000")
	}
}

// P10.1: no tree is nine deep: such a one is refused where the way goes so far, and comes back.
func TestNineDeep(t *testing.T) {
	pages := []api.Page{leaf("a b")}
	for i := range 20 {
		pages = append(pages, branch("k", 2+i, 2+i))
	}
	s := stored(pages...)
	for root := 2; root <= 9; root++ {
		wantKeys(t, s, root, "a", "a", "a", "b")
	}
	for root := 10; root <= 22; root++ {
		wantError(t, "nine deep", s, root, "a", api.ErrCorrupt)
		wantError(t, "nine deep", s, root, "k", api.ErrCorrupt)
	}
}

// P10.1: what is dirty counts, not what the file has there; a tree whose pages were Touched is asked for at its new root, the elder one is as it was.
func TestDirtyPagesCount(t *testing.T) {
	s := stored(leaf("a b"), leaf("c d"), branch("c", 2, 3))
	two, err := s.Touch(3)
	if err != nil || s.Set(two, leaf("c e f")) != nil {
		t.Fatalf("Touch: %d, %v", two, err)
	}
	top, err := s.Touch(4)
	if err != nil || s.Set(top, branch("c", 2, two)) != nil {
		t.Fatalf("Touch: %d, %v", top, err)
	}
	wantKeys(t, s, top, "d", "-", "e", "e")
	wantKeys(t, s, top, "b", "b", "b", "c")
	wantKeys(t, s, top, "f", "f", "f", "-")
	wantKeys(t, s, 4, "d", "d", "d", "-")
	other := s.Copy()
	if err := other.Set(two, leaf("d dd")); err != nil {
		t.Fatal(err)
	}
	wantKeys(t, other, top, "b", "b", "b", "d")
	wantKeys(t, s, top, "b", "b", "b", "c")
}

// P10.1: roots that may not be are the store's error; a number that it can see, and on which nothing is, is corrupt.
func TestWrongRoots(t *testing.T) {
	pages := []api.Page{leaf("a b"), leaf("c d"), branch("c", 2, 3)}
	s := store.New(fileOf(pages), 5, 9, nil)
	for _, key := range []string{"", "a", "bb", "d", "z"} {
		for _, root := range []int{lowest, lowest + 1, -400, -2, -1, 1, 9, 10, 399, 400, 401, highest - 1, highest} {
			wantError(t, "a wrong root", s, root, key, api.ErrMap)
		}
		for _, root := range []int{5, 8} {
			wantError(t, "a root that is none", s, root, key, api.ErrCorrupt)
		}
		all := stored(pages...)
		for _, root := range []int{5, 6, 398, 399} {
			wantError(t, "a root that is none", all, root, key, api.ErrCorrupt)
		}
		wantError(t, "a wrong root", all, 400, key, api.ErrMap)
		wantError(t, "a store that sees nothing", store.New(fileOf(pages), 5, 2, nil), 2, key, api.ErrMap)
	}
}

// P10.1: a child that can't be seen is the store's error, where the way goes there.
func TestUnseenChild(t *testing.T) {
	s := store.New(fileOf([]api.Page{leaf("a b"), branch("c", 2, 390), branch("a", 390, 2)}), 5, 390, nil)
	for _, key := range []string{"c", "d", "z"} {
		wantError(t, "the last child", s, 3, key, api.ErrMap)
	}
	calls()[1].wantError(t, "behind the first", s, 3, "bb", api.ErrMap)
	calls()[2].wantError(t, "behind the first", s, 3, "b", api.ErrMap)
	wantError(t, "the first child", s, 4, "", api.ErrMap)
	wantKeys(t, s, 4, "a", "a", "a", "b")
	wantKeys(t, s, 4, "c", "-", "-", "-")
}

// P10.1: a page of another Kind, or bytes that are no page, as a root, and as a child.
func TestOtherKinds(t *testing.T) {
	for _, other := range []api.Page{noPage, overPage, dupPage, freePage, metaPage} {
		what := "kind " + strconv.Itoa(other.Kind)
		s := stored(other, leaf("a b"), branch("c", 2, 2), branch("c", 3, 2), branch("c", 4, 4))
		for _, key := range []string{"", "a", "c", "z"} {
			wantError(t, what+", a root", s, 2, key, api.ErrCorrupt)
			wantError(t, what+", a child", s, 4, key, api.ErrCorrupt)
			wantError(t, what+", a child's", s, 6, key, api.ErrCorrupt)
		}
		wantError(t, what+", the last child", s, 5, "c", api.ErrCorrupt)
		calls()[1].wantError(t, what+", behind", s, 5, "bb", api.ErrCorrupt)
		calls()[2].wantError(t, what+", behind", s, 5, "b", api.ErrCorrupt)

		made := stored()
		for _, p := range []api.Page{leaf("a b"), other, branch("a", 3, 3)} {
			if page.Is(p) {
				made.Add(p)
			} else {
				made.Run(1) // a number that isn't Set yet
			}
		}
		for _, key := range []string{"", "a", "c", "z"} {
			wantError(t, what+", dirty, a root", made, 3, key, api.ErrCorrupt)
			wantError(t, what+", dirty, a child", made, 4, key, api.ErrCorrupt)
		}
	}
}

// P10.1: bytes that were a page, but for one of them, are corrupt.
func TestBrokenBytes(t *testing.T) {
	good := []string{"", "", page.Bytes(leaf("c d")), page.Bytes(branch("c", 2, 2))}
	for id := 2; id <= 3; id++ {
		for _, bad := range []string{"", good[id][:len(good[id])-1], good[id] + "\x00", good[id][1:], strings.Replace(good[id], "c", "x", 1), "PLeaf"} {
			texts := slices.Clone(good)
			texts[id] = bad
			wantError(t, "page "+strconv.Itoa(id)+" is broken", store.New(file.New(texts), 4, 400, nil), 3, "c", api.ErrCorrupt)
		}
	}
}

// P10.1: a number of Run that isn't Set yet is corrupt, though the file has a leaf there; once it is Set it counts.
func TestNotSetYet(t *testing.T) {
	s := store.New(fileOf([]api.Page{leaf("a b"), leaf("c d"), branch("c", 2, 3)}), 5, 400, []int{3})
	wantKeys(t, s, 4, "c", "c", "c", "d")
	if id, err := s.Run(1); id != 3 || err != nil {
		t.Fatalf("Run: %d, %v", id, err)
	}
	wantError(t, "not Set yet", s, 3, "c", api.ErrCorrupt)
	wantError(t, "a child not Set yet", s, 4, "c", api.ErrCorrupt)
	if err := s.Set(3, leaf("x y z")); err != nil {
		t.Fatal(err)
	}
	wantKeys(t, s, 4, "c", "-", "x", "x")
	wantKeys(t, s, 4, "b", "b", "b", "x")
}

// P10.1: of pages that come back to themselves nothing is promised, but that each call comes back, here with nothing beside an error.
func TestCycles(t *testing.T) {
	for what, s := range map[string]*store.Store{
		"itself":                 stored(branch("k", 2, 2)),
		"itself, first":          stored(branch("k", 2, 3), leaf("m n")),
		"itself, last":           stored(branch("k", 3, 2), leaf("a b")),
		"itself, in the midst":   stored(branch("g m", 3, 2, 4), leaf("a b"), leaf("m n")),
		"each other":             stored(branch("k", 4, 3), branch("m", 5, 2), leaf("a b"), leaf("k l")),
		"three of them":          stored(branch("k", 5, 3), branch("m", 5, 4), branch("p", 5, 2), leaf("a b")),
		"all the children":       stored(branch("b c d", 3, 3, 3, 3), branch("b c d", 2, 2, 2, 2)),
		"the root's grandfather": stored(branch("k", 3, 3), branch("k", 4, 4), branch("k", 2, 2)),
		"behind a leaf":          stored(branch("x", 3, 2), leaf("a")),
		"behind each leaf":       stored(branch("x y z", 3, 2, 3, 2), leaf("a")),
	} {
		for _, key := range []string{"", "a", "b", "c", "d", "g", "h", "k", "l", "m", "p", "q", "w", "x", "y", "z", "zz"} {
			for _, c := range calls() {
				if it, err := c.ask(s, 2, key); err != nil && !sameItem(it, none) {
					t.Errorf("%s: %s(%q): %v beside %v", what, c.name, key, it, err)
				}
			}
		}
	}
	wantError(t, "itself", stored(branch("k", 2, 2)), 2, "a", api.ErrCorrupt)
	wantError(t, "itself", stored(branch("k", 2, 2)), 2, "k", api.ErrCorrupt)
	s := stored(branch("x", 3, 2), leaf("a"))
	calls()[0].wantItem(t, s, 2, "c", none)
	calls()[1].wantError(t, "behind a leaf", s, 2, "c", api.ErrCorrupt)
	calls()[2].wantError(t, "behind a leaf", s, 2, "a", api.ErrCorrupt)
}

// state: all that a store tells of its numbers, and each of its pages.
type state struct {
	dirty, freed, avail []int
	last                int
	pages               []api.Page
}

func stateOf(s *store.Store) state {
	was := state{dirty: s.Dirty(), freed: s.Freed(), avail: s.Avail(), last: s.Last()}
	for id := range api.MaxPages {
		p, _ := s.Read(id)
		was.pages = append(was.pages, p)
	}
	return was
}

func (a state) same(b state) bool {
	return slices.Equal(a.dirty, b.dirty) && slices.Equal(a.freed, b.freed) && slices.Equal(a.avail, b.avail) && a.last == b.last && slices.EqualFunc(a.pages, b.pages, page.Same)
}

// P10.1: no call changes the store, whether it tells an error or none; the same call answers the same again.
func TestStoreIsNeverChanged(t *testing.T) {
	pages := []api.Page{leafOf(val("a"), long("b", 7, 201)), leafOf(manyOn("c", 6), many("d", "x")), branch("c", 2, 3), branch("k", 5, 2), dupPage}
	s := store.New(fileOf(pages), 10, 399, []int{8, 9})
	s.Touch(3)
	s.Run(2)
	s.Drop(7)
	was := stateOf(s)
	for range 2 {
		for _, root := range []int{lowest, -1, 0, 1, 2, 3, 4, 5, 6, 7, 8, 9, 10, 11, 12, 398, 399, 400, highest} {
			for _, key := range []string{"", "a", "bb", "c", "d", "k", "z"} {
				for _, c := range calls() {
					c.ask(s, root, key)
				}
			}
		}
		if !stateOf(s).same(was) {
			t.Error("the store is changed")
		}
		wantItems(t, s, 4, "b", long("b", 7, 201), long("b", 7, 201), manyOn("c", 6))
		wantItems(t, s, 4, "d", many("d", "x"), many("d", "x"), none)
	}
}

// P10.1: an item that is answered is new memory, its spare room too: who has it may change it.
func TestAnswersAreApart(t *testing.T) {
	one := []api.Item{many("a", "x", "y"), many("b", "x")}
	two := []api.Item{many("c", "x", "y", "z"), val("d")}
	pages := []api.Page{leafOf(one...), leafOf(two...), branch("c", 2, 3)}
	for ofFile := range 4 {
		s := made(t, ofFile, pages)
		for _, key := range []string{"a", "b", "bb", "c", "d", "a", "b", "c"} {
			for _, c := range calls() {
				wantOf(t, s, 4, key, slices.Concat(one, two))
				it, _ := c.ask(s, 4, key)
				again, _ := c.ask(s, 4, key)
				was := slices.Clone(again.Vals)
				spoil(it.Vals)
				if !slices.Equal(again.Vals, was) {
					t.Errorf("two answers of %s(%q) share their values", c.name, key)
				}
				spoil(again.Vals)
			}
		}
	}
}

// spoil changes a list, and what is behind it.
func spoil(list []string) {
	list = list[:cap(list)]
	for i := range list {
		list[i] = "spoilt"
	}
}
