package way_test

import (
	"errors"
	"math"
	"slices"
	"strings"
	"testing"

	"copyhold/api"
	"copyhold/file"
	"copyhold/page"
	"copyhold/store"
	"copyhold/way"
)

// leaf gives a leaf of keys with a blank between.
func leaf(keys string) api.Page {
	p := api.Page{Kind: api.PLeaf}
	for _, key := range strings.Fields(keys) {
		p.Items = append(p.Items, api.Item{Key: key, Kind: api.IVal})
	}
	return p
}

// branch gives a branch with these keys behind the first one, a blank between.
func branch(keys string, kids ...int) api.Page {
	return api.Page{Kind: api.PBranch, Keys: append([]string{""}, strings.Fields(keys)...), Kids: kids}
}

// stored gives a store over a file of these pages, from number 2 on.
func stored(pages ...api.Page) *store.Store {
	texts := []string{"", ""}
	for _, p := range pages {
		texts = append(texts, page.Bytes(p))
	}
	return store.New(file.New(texts), len(texts), api.MaxPages, nil)
}

func wantError(t *testing.T, s *store.Store, root int, want error) {
	t.Helper()
	if steps, err := way.Down(s, root, "d"); steps != nil || !errors.Is(err, want) {
		t.Errorf("Down(%d): %v, %v; not %v", root, steps, err, want)
	}
}

// The pages on the way, from the root on, are copied, and told by their new numbers, with the child that the way goes on with; the second time they are dirty already.
func TestDown(t *testing.T) {
	for _, c := range []struct {
		key  string
		kids []int
		was  []int
	}{
		{"", []int{0, 0, 0}, []int{2, 6, 8}}, {"b", []int{0, 0, 0}, []int{2, 6, 8}}, {"c", []int{0, 1, 0}, []int{3, 6, 8}},
		{"e", []int{1, 0, 0}, []int{4, 7, 8}}, {"f", []int{1, 0, 0}, []int{4, 7, 8}}, {"g", []int{1, 1, 0}, []int{5, 7, 8}}, {"z", []int{1, 1, 0}, []int{5, 7, 8}},
	} {
		s := stored(leaf("a b"), leaf("c d"), leaf("e f"), leaf("g h"), branch("c", 2, 3), branch("g", 4, 5), branch("e", 6, 7))
		root := 8
		for range 2 {
			steps, err := way.Down(s, root, c.key)
			if err != nil || len(steps) != 3 {
				t.Fatalf("%q: %v, %v", c.key, steps, err)
			}
			for i, at := range steps {
				if p, err := s.Read(at.ID); at.ID != 9+i || err != nil || !page.Same(at.Page, p) {
					t.Errorf("%q: page %d of the way: %v, not %v, %v", c.key, i, at, p, err)
				}
				if i < 2 && at.Kid != c.kids[i] {
					t.Errorf("%q: page %d of the way goes on with %d, not %d", c.key, i, at.Kid, c.kids[i])
				}
				if i < 2 {
					at.Page.Kids[at.Kid] = steps[i+1].ID
				}
				if err := s.Set(at.ID, at.Page); err != nil {
					t.Error(err)
				}
			}
			if !slices.Equal(s.Dirty(), []int{9, 10, 11}) || !slices.Equal(s.Freed(), c.was) {
				t.Errorf("%q: dirty %v, freed %v", c.key, s.Dirty(), s.Freed())
			}
			root = 9
		}
	}
}

// The store's errors come first, then ErrCorrupt of what no tree has there, ahead of a page too many.
func TestDownErrors(t *testing.T) {
	over := api.Page{Kind: api.POver, Text: "x"}
	pages := []api.Page{over, branch("c", 2, 2), branch("c", 4, 4), branch("c", 390, 390), leaf("a b")}
	for _, root := range []int{math.MinInt, -1, 0, 1, api.MaxPages, math.MaxInt} {
		wantError(t, stored(pages...), root, api.ErrMap)
	}
	for _, root := range []int{2, 3, 4, 5, 7} {
		wantError(t, stored(pages...), root, api.ErrCorrupt)
	}
	s := stored(pages...)
	for range api.MaxDirty {
		s.Add(over)
	}
	wantError(t, s, 2, api.ErrCorrupt)
	wantError(t, s, 6, api.ErrTxn)
}

// Eight deep is a tree, nine deep none.
func TestDepth(t *testing.T) {
	pages := []api.Page{leaf("a b")}
	for i := range 9 {
		pages = append(pages, branch("c", 2+i, 2+i))
	}
	for root := 2; root <= 9; root++ {
		if steps, err := way.Down(stored(pages...), root, "d"); err != nil || len(steps) != root-1 {
			t.Errorf("%d: %v, %v", root, steps, err)
		}
	}
	wantError(t, stored(pages...), 10, api.ErrCorrupt)
	wantError(t, stored(pages...), 11, api.ErrCorrupt)
}

// A page of one of these kinds is touched, one of another kind isn't.
func TestTouch(t *testing.T) {
	s := stored(leaf("a b"), branch("c", 2, 2))
	for _, kinds := range [][]int{nil, {api.PBranch}, {api.POver, api.PDup}} {
		if at, err := way.Touch(s, 2, kinds...); at != nil || !errors.Is(err, api.ErrCorrupt) || len(s.Dirty()) > 0 {
			t.Errorf("%v: %v, %v", kinds, at, err)
		}
	}
	for id, kinds := range map[int][]int{2: {api.PLeaf}, 3: {api.POver, api.PBranch}} {
		was, _ := s.Read(id)
		at, err := way.Touch(s, id, kinds...)
		if err != nil || !slices.Contains(s.Dirty(), at.ID) || !slices.Contains(s.Freed(), id) || !page.Same(at.Page, was) {
			t.Errorf("%d: %v, %v", id, at, err)
		}
	}
	if at, err := way.Touch(s, api.MaxPages, api.PLeaf); at != nil || !errors.Is(err, api.ErrMap) {
		t.Errorf("%v, %v", at, err)
	}
}

// The first half is rounded up; of a branch the key between goes up, and the rest begins with an empty one.
func TestSplit(t *testing.T) {
	for _, c := range []struct {
		was, low, high api.Page
		size           int
		key            string
	}{
		{leaf("a b"), leaf("a"), leaf("b"), 2, "b"},
		{leaf("a b c d"), leaf("a b"), leaf("c d"), 4, "c"},
		{leaf("a b c d e"), leaf("a b c"), leaf("d e"), 5, "d"},
		{branch("b c d", 2, 3, 4, 5), branch("b", 2, 3), branch("d", 4, 5), 4, "c"},
		{branch("b c d e", 2, 3, 4, 5, 6), branch("b c", 2, 3, 4), branch("e", 5, 6), 5, "d"},
	} {
		if n := way.Size(c.was); n != c.size {
			t.Errorf("Size(%v): %d", c.was, n)
		}
		low, high, key := way.Split(c.was)
		if !page.Same(low, c.low) || !page.Same(high, c.high) || key != c.key {
			t.Errorf("Split(%v): %v, %v, %q", c.was, low, high, key)
		}
	}
	if way.Size(leaf("")) != 0 || way.Size(branch("", 2)) != 1 {
		t.Error("Size of a page that is none")
	}
}
