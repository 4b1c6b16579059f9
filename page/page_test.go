package page_test

import (
	"slices"
	"strings"
	"testing"

	"copyhold/api"
	"copyhold/page"
)

func leaf(items ...api.Item) api.Page { return api.Page{Kind: api.PLeaf, Items: items} }

func val(key, v string) api.Item { return api.Item{Key: key, Kind: api.IVal, Val: v} }

func long(run, size int) api.Item {
	return api.Item{Key: "k", Kind: api.ILong, Run: run, Len: size}
}

func many(vals ...string) api.Item { return api.Item{Key: "k", Kind: api.IDup, Vals: vals} }

func manyOn(dup int) api.Item { return api.Item{Key: "k", Kind: api.IDup, Dup: dup} }

func root(number, count, flags int) api.Item {
	return api.Item{Key: "k", Kind: api.IRoot, Root: api.Root{Page: number, Count: count, Flags: flags}}
}

func branch(keys []string, kids ...int) api.Page {
	return api.Page{Kind: api.PBranch, Keys: keys, Kids: kids}
}

func over(s string) api.Page { return api.Page{Kind: api.POver, Text: s} }

func dup(vals ...string) api.Page { return api.Page{Kind: api.PDup, Vals: vals} }

func free(next int, list ...api.Free) api.Page {
	return api.Page{Kind: api.PFree, Free: list, Next: next}
}

func freed(txn uint64, ids ...int) api.Free { return api.Free{Txn: txn, IDs: ids} }

func meta(m api.Meta) api.Page { return api.Page{Kind: api.PMeta, Meta: m} }

// texts gives n of them, rising.
func texts(n int) []string {
	list := []string{}
	for i := range n {
		list = append(list, string(rune('a'+i)))
	}
	return list
}

// numbers gives n of them from first on, rising.
func numbers(first, n int) []int {
	list := []int{}
	for i := range n {
		list = append(list, first+i)
	}
	return list
}

type sample struct {
	what string
	p    api.Page
}

// pages: of each kind of page and of item the ordinary ones, and those at each limit.
func pages() []sample {
	return []sample{
		{"leaf of one", leaf(val("a", "1"))},
		{"leaf of Fan", leaf(val("a", "1"), val("aa", "2"), val("b", "1"), val("\xff", ""))},
		{"leaf of all kinds", leaf(
			val("a", "x"),
			api.Item{Key: "b", Kind: api.ILong, Run: 7, Len: 300},
			api.Item{Key: "c", Kind: api.IDup, Vals: texts(2)},
			api.Item{Key: "d", Kind: api.IRoot, Root: api.Root{Page: 9, Count: 3, Flags: api.FDup}})},
		{"key of one byte", leaf(val("\x00", "1"))},
		{"key of MaxKey bytes", leaf(val("12345678", "1"))},
		{"no bytes of a value", leaf(val("k", ""))},
		{"MaxShort bytes of a value", leaf(val("k", strings.Repeat("v", 12)))},
		{"long, least", leaf(long(2, 13))},
		{"long, most", leaf(long(399, 1000))},
		{"one value", leaf(many("v"))},
		{"InDup values", leaf(many("a", "ab", "b"))},
		{"values of one and of MaxShort bytes", leaf(many("a", strings.Repeat("v", 12)))},
		{"values on the first page", leaf(manyOn(2))},
		{"values on the last page", leaf(manyOn(399))},
		{"no root", leaf(root(0, 0, 0))},
		{"least root", leaf(root(2, 1, 0))},
		{"most of a root", leaf(root(399, 1000000, api.FDup))},
		{"branch of two", branch([]string{"", "b"}, 2, 399)},
		{"branch of Fan", branch([]string{"", "\x00", "b", "bbbbbbbb"}, 5, 5, 4, 3)},
		{"over of one byte", over("\x00")},
		{"over of OverBytes", over(strings.Repeat("o", 100))},
		{"dup of least", dup(texts(4)...)},
		{"dup of most", dup(texts(12)...)},
		{"dup of MaxShort bytes", dup("a", "b", "c", strings.Repeat("d", 12))},
		{"free without any", free(0)},
		{"free, and more", free(2)},
		{"free, last next", free(399, freed(0, 2))},
		{"free of FreeIDs", free(0, freed(7, numbers(2, 20)...))},
		{"free of FreeIDs in several", free(0, freed(1, 2, 399), freed(1, 2), freed(1<<64-1, numbers(100, 17)...))},
		{"free, one each", free(0, slices.Repeat([]api.Free{freed(3, 5)}, 20)...)},
		{"least meta", meta(api.Meta{Last: 2})},
		{"most of a meta", meta(api.Meta{Txn: 1<<64 - 1, Main: api.Root{Page: 399, Count: 1000000, Flags: api.FDup}, Free: 399, Last: 400})},
		{"meta", meta(api.Meta{Txn: 5, Main: api.Root{Page: 2, Count: 1}, Free: 2, Last: 4})},
	}
}

// P2.1: what is a page.
func TestIs(t *testing.T) {
	for _, s := range pages() {
		if !page.Is(s.p) {
			t.Errorf("%s isn't a page", s.what)
		}
	}
}

// P2.1: one past each limit.
func TestIsNotPastALimit(t *testing.T) {
	for _, s := range []sample{
		{"nothing", api.Page{}},
		{"kind below", api.Page{Kind: -1}},
		{"kind above", api.Page{Kind: 7}},
		{"leaf without items", leaf()},
		{"leaf of more than Fan", leaf(val("a", ""), val("b", ""), val("c", ""), val("d", ""), val("e", ""))},
		{"no key", leaf(val("", "x"))},
		{"no key, but the first has one", leaf(val("a", "x"), val("", "x"))},
		{"key of nine bytes", leaf(val("123456789", "x"))},
		{"second key of nine bytes", leaf(val("1", "x"), val("123456789", "x"))},
		{"item kind 0", leaf(api.Item{Key: "k"})},
		{"item kind above", leaf(api.Item{Key: "k", Kind: 5})},
		{"item kind below", leaf(api.Item{Key: "k", Kind: -1})},
		{"13 bytes of a value", leaf(val("k", strings.Repeat("v", 13)))},
		{"long on a meta", leaf(long(1, 13))},
		{"long nowhere", leaf(long(0, 13))},
		{"long below", leaf(long(-2, 13))},
		{"long past the file", leaf(long(400, 13))},
		{"long that is short", leaf(long(2, 12))},
		{"long of less than nothing", leaf(long(2, -1))},
		{"long of too much", leaf(long(2, 1001))},
		{"no values", leaf(many())},
		{"one more than InDup", leaf(many(texts(4)...))},
		{"empty value", leaf(many(""))},
		{"value of 13 bytes", leaf(many("a", strings.Repeat("v", 13)))},
		{"values on a meta", leaf(manyOn(1))},
		{"values below", leaf(manyOn(-1))},
		{"values past the file", leaf(manyOn(400))},
		{"root on a meta", leaf(root(1, 0, 0))},
		{"root below", leaf(root(-1, 0, 0))},
		{"root past the file", leaf(root(400, 0, 0))},
		{"count below", leaf(root(2, -1, 0))},
		{"count above", leaf(root(2, 1000001, 0))},
		{"flags above", leaf(root(2, 0, 2))},
		{"flags below", leaf(root(2, 0, -1))},
		{"branch without kids", branch(nil)},
		{"branch of one", branch([]string{""}, 2)},
		{"branch of more than Fan", branch([]string{"", "b", "c", "d", "e"}, 2, 3, 4, 5, 6)},
		{"kid on a meta", branch([]string{"", "b"}, 1, 3)},
		{"kid past the file", branch([]string{"", "b"}, 2, 400)},
		{"kid below", branch([]string{"", "b", "c"}, 2, -3, 4)},
		{"first key of a branch", branch([]string{"a", "b"}, 2, 3)},
		{"second key of none", branch([]string{"", ""}, 2, 3)},
		{"second branch key of nine bytes", branch([]string{"", "bbbbbbbbb"}, 2, 3)},
		{"last branch key of nine bytes", branch([]string{"", "b", "bbbbbbbbb"}, 2, 3, 4)},
		{"more keys than kids", branch([]string{"", "b", "c"}, 2, 3)},
		{"more kids than keys", branch([]string{"", "b"}, 2, 3, 4)},
		{"kids without keys", branch(nil, 2, 3)},
		{"keys without kids", branch([]string{"", "b"})},
		{"over of nothing", over("")},
		{"over of 101", over(strings.Repeat("o", 101))},
		{"dup of InDup", dup(texts(3)...)},
		{"dup of none", dup()},
		{"dup of 13", dup(texts(13)...)},
		{"dup of an empty one", dup("", "b", "c", "d")},
		{"dup of 13 bytes", dup("a", "b", "c", strings.Repeat("d", 13))},
		{"free of 21", free(0, freed(7, numbers(2, 21)...))},
		{"free of 21 in two", free(0, freed(7, numbers(2, 20)...), freed(7, 30))},
		{"free, 21 of one each", free(0, slices.Repeat([]api.Free{freed(3, 5)}, 21)...)},
		{"free of none", free(0, freed(7))},
		{"free of none behind", free(0, freed(7, 2), freed(8))},
		{"free meta", free(0, freed(7, 1, 2))},
		{"free past the file", free(0, freed(7, 2, 400))},
		{"free below", free(0, freed(7, -5, 2))},
		{"next is a meta", free(1)},
		{"next past the file", free(400)},
		{"next below", free(-1)},
		{"meta of nothing", meta(api.Meta{})},
		{"meta, last below", meta(api.Meta{Last: 1})},
		{"meta, last less than nothing", meta(api.Meta{Last: -2})},
		{"meta, last above", meta(api.Meta{Last: 401})},
		{"meta, free a meta", meta(api.Meta{Last: 2, Free: 1})},
		{"meta, free above", meta(api.Meta{Last: 400, Free: 400})},
		{"meta, free below", meta(api.Meta{Last: 400, Free: -1})},
		{"meta, main a meta", meta(api.Meta{Last: 2, Main: api.Root{Page: 1}})},
		{"meta, main past the file", meta(api.Meta{Last: 400, Main: api.Root{Page: 400}})},
		{"meta, count above", meta(api.Meta{Last: 2, Main: api.Root{Count: 1000001}})},
		{"meta, count below", meta(api.Meta{Last: 2, Main: api.Root{Count: -1}})},
		{"meta, flags", meta(api.Meta{Last: 2, Main: api.Root{Flags: 2}})},
	} {
		wantNone(t, s.what, s.p)
	}
}

// P2.1: what must rise and doesn't.
func TestIsNotWhatDoesNotRise(t *testing.T) {
	for _, s := range []sample{
		{"keys the same", leaf(val("a", ""), val("a", ""))},
		{"keys fall", leaf(val("b", ""), val("a", ""))},
		{"last keys fall", leaf(val("a", ""), val("b", ""), val("d", ""), val("c", ""))},
		{"a key and its beginning", leaf(val("ab", ""), val("a", ""))},
		{"values the same", leaf(many("a", "a"))},
		{"values fall", leaf(many("a", "c", "b"))},
		{"branch keys the same", branch([]string{"", "b", "b"}, 2, 3, 4)},
		{"branch keys fall", branch([]string{"", "c", "b"}, 2, 3, 4)},
		{"dup the same", dup("a", "b", "c", "c")},
		{"dup falls", dup("b", "a", "c", "d")},
		{"free the same", free(0, freed(1, 2, 2))},
		{"free falls", free(0, freed(1, 2, 5, 4))},
		{"versions fall", free(0, freed(2, 2), freed(1, 3))},
		{"last versions fall", free(0, freed(2, 2), freed(1<<64-1, 3), freed(3, 4))},
	} {
		wantNone(t, s.what, s.p)
	}
}

// P2.1: parts that the kind doesn't have.
func TestIsNotWithParts(t *testing.T) {
	parts := []struct {
		what string
		add  func(*api.Page)
	}{
		{"Items", func(p *api.Page) { p.Items = []api.Item{{}} }},
		{"Keys", func(p *api.Page) { p.Keys = []string{""} }},
		{"Kids", func(p *api.Page) { p.Kids = []int{0} }},
		{"Text", func(p *api.Page) { p.Text = "x" }},
		{"Vals", func(p *api.Page) { p.Vals = []string{""} }},
		{"Free", func(p *api.Page) { p.Free = []api.Free{{}} }},
		{"Next", func(p *api.Page) { p.Next = 2 }},
		{"Meta.Txn", func(p *api.Page) { p.Meta.Txn = 1 }},
		{"Meta.Main", func(p *api.Page) { p.Meta.Main.Flags = 1 }},
		{"Meta.Free", func(p *api.Page) { p.Meta.Free = 2 }},
		{"Meta.Last", func(p *api.Page) { p.Meta.Last = 2 }},
	}
	has := map[int][]string{
		api.PLeaf: {"Items"}, api.PBranch: {"Keys", "Kids"}, api.POver: {"Text"}, api.PDup: {"Vals"},
		api.PFree: {"Free", "Next"}, api.PMeta: {"Meta.Txn", "Meta.Main", "Meta.Free", "Meta.Last"},
	}
	for _, s := range pages() {
		for _, part := range parts {
			if !slices.Contains(has[s.p.Kind], part.what) {
				p := s.p
				part.add(&p)
				wantNone(t, s.what+" with "+part.what, p)
			}
		}
		for kind := range has {
			if kind != s.p.Kind {
				p := s.p
				p.Kind = kind
				wantNone(t, s.what+" by another kind", p)
			}
		}
	}
}

// P2.1: parts that the item's kind doesn't have.
func TestIsNotWithPartsOfAnItem(t *testing.T) {
	parts := []struct {
		what string
		add  func(*api.Item)
	}{
		{"Val", func(it *api.Item) { it.Val = "x" }},
		{"Run", func(it *api.Item) { it.Run = 2 }},
		{"Len", func(it *api.Item) { it.Len = 13 }},
		{"Vals", func(it *api.Item) { it.Vals = []string{"x"} }},
		{"Dup", func(it *api.Item) { it.Dup = 2 }},
		{"Root.Page", func(it *api.Item) { it.Root.Page = 2 }},
		{"Root.Count", func(it *api.Item) { it.Root.Count = 1 }},
		{"Root.Flags", func(it *api.Item) { it.Root.Flags = 1 }},
	}
	for _, c := range []struct {
		it  api.Item
		has []string
	}{
		{val("k", ""), []string{"Val"}},
		{long(2, 13), []string{"Run", "Len"}},
		{many("v"), []string{"Vals"}},
		{manyOn(3), []string{"Dup"}},
		{root(0, 0, 0), []string{"Root.Page", "Root.Count", "Root.Flags"}},
	} {
		for _, part := range parts {
			it := c.it
			part.add(&it)
			if slices.Contains(c.has, part.what) {
				if !page.Is(leaf(it)) {
					t.Errorf("an item of kind %d with %s isn't right", it.Kind, part.what)
				}
			} else {
				wantNone(t, "an item with "+part.what, leaf(it))
				wantNone(t, "a second item with "+part.what, leaf(val("a", ""), it))
			}
		}
	}
}

func wantNone(t *testing.T, what string, p api.Page) {
	t.Helper()
	if page.Is(p) {
		t.Errorf("%s: is a page", what)
	}
	if got := page.Bytes(p); got != "" {
		t.Errorf("%s: has bytes %q", what, got)
	}
}

// P2.1: a nil list and an empty one are the same.
func TestEmptyListsAreNone(t *testing.T) {
	for _, s := range pages() {
		p := s.p
		p.Items, p.Keys, p.Kids = append([]api.Item{}, p.Items...), append([]string{}, p.Keys...), append([]int{}, p.Kids...)
		p.Vals, p.Free = append([]string{}, p.Vals...), append([]api.Free{}, p.Free...)
		for i, it := range p.Items {
			p.Items[i].Vals = append([]string{}, it.Vals...)
		}
		if !page.Is(p) || !page.Same(p, s.p) || !page.Same(s.p, p) || page.Bytes(p) != page.Bytes(s.p) {
			t.Errorf("%s: an empty list isn't none", s.what)
		}
	}
	if !page.Same(free(0, api.Free{Txn: 1}), free(0, api.Free{Txn: 1, IDs: []int{}})) {
		t.Error("empty IDs aren't none")
	}
}

// P2.1: Same goes by all parts, of what isn't a page too.
func TestSame(t *testing.T) {
	for i, a := range pages() {
		for k, b := range pages() {
			if page.Same(a.p, b.p) != (i == k) {
				t.Errorf("Same of %s and %s: %v", a.what, b.what, i != k)
			}
		}
	}
	item := func(it api.Item) api.Page { return api.Page{Items: []api.Item{it}} }
	list := []api.Page{
		{}, {Kind: 9}, {Kind: -1},
		item(api.Item{}), item(api.Item{Key: "k"}), item(api.Item{Kind: 9}), item(api.Item{Val: "v"}), item(api.Item{Run: 1}), item(api.Item{Len: 1}),
		item(api.Item{Vals: []string{"v"}}), item(api.Item{Vals: []string{"w"}}), item(api.Item{Vals: []string{"v", "w"}}), item(api.Item{Dup: 1}),
		item(api.Item{Root: api.Root{Page: 1}}), item(api.Item{Root: api.Root{Count: 1}}), item(api.Item{Root: api.Root{Flags: 1}}),
		{Items: make([]api.Item, 2)}, {Items: make([]api.Item, 9)},
		{Keys: []string{""}}, {Keys: []string{"k"}}, {Keys: []string{"k", ""}},
		{Kids: []int{0}}, {Kids: []int{1}}, {Kids: []int{1, 0}},
		{Text: "t"}, {Text: "u"}, {Text: "tu"},
		{Vals: []string{""}}, {Vals: []string{"v"}}, {Vals: []string{"v", "v"}},
		{Free: []api.Free{{}}}, {Free: []api.Free{{Txn: 1}}}, {Free: []api.Free{{IDs: []int{1}}}}, {Free: []api.Free{{IDs: []int{2}}}}, {Free: make([]api.Free, 2)},
		{Next: 1}, {Next: -1},
		{Meta: api.Meta{Txn: 1}}, {Meta: api.Meta{Main: api.Root{Page: 1}}}, {Meta: api.Meta{Main: api.Root{Count: 1}}}, {Meta: api.Meta{Main: api.Root{Flags: 1}}}, {Meta: api.Meta{Free: 1}}, {Meta: api.Meta{Last: 1}},
	}
	for i, a := range list {
		for k, b := range list {
			if page.Same(a, b) != (i == k) {
				t.Errorf("Same of rows %d and %d: %v", i, k, i != k)
			}
		}
	}
}

// P2.1: a key.
func TestShort(t *testing.T) {
	for _, c := range []struct {
		s    string
		want bool
	}{
		{"", false}, {"a", true}, {"\x00", true}, {"1234567", true}, {"12345678", true}, {"123456789", false},
		{"éééé", true}, {"ééééé", false}, {strings.Repeat("x", 264), false},
	} {
		if page.Short(c.s) != c.want {
			t.Errorf("Short(%q): %v", c.s, !c.want)
		}
	}
}
