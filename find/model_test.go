package find_test

import (
	"errors"
	"math/rand/v2"
	"slices"
	"testing"

	"copyhold/api"
	"copyhold/store"
)

// randomItem gives an item of any kind.
func randomItem(r *rand.Rand, key string) api.Item {
	switch r.IntN(10) {
	case 0:
		return long(key, 200+r.IntN(180), 13+r.IntN(988))
	case 1:
		return manyOn(key, 200+r.IntN(180))
	case 2:
		return many(key, "x", "y", "z")
	case 3:
		return root(key, r.IntN(5)*3, r.IntN(100), r.IntN(2))
	}
	return val(key)
}

// numbered gives the n-th of keys that rise with n.
func numbered(n int) string {
	return string([]byte{'a' + byte(n/26/26%26), 'a' + byte(n/26%26), 'a' + byte(n%26)})
}

// plant adds a tree that is right, so deep, with keys from n on, and gives its root. The keys of branches lie anywhere between the last key ahead and the first one behind, or are that one.
func (g *garden) plant(r *rand.Rand, depth int, n *int) int {
	most := api.Fan
	if depth > 4 {
		most = api.Least
	}
	size := api.Least + r.IntN(most-api.Least+1)
	p := api.Page{Kind: api.PBranch}
	if depth == 1 {
		p.Kind = api.PLeaf
		for range size {
			p.Items = append(p.Items, randomItem(r, numbered(*n)))
			*n += 1 + r.IntN(3)
		}
		return g.add(p)
	}
	for i := range size {
		low := ""
		if i > 0 {
			low = numbered(*n)
			*n += r.IntN(3)
		}
		p.Kids, p.Keys = append(p.Kids, g.plant(r, depth-1, n)), append(p.Keys, low)
	}
	return g.add(p)
}

func itemsOf(pages []api.Page) []api.Item {
	var items []api.Item
	for _, p := range pages {
		items = append(items, p.Items...)
	}
	return items // plant adds leaves in the order of their keys
}

// randomTree gives the pages of a tree that is right, the root's number, and a number above those of its keys.
func randomTree(r *rand.Rand) (pages []api.Page, root, n int) {
	for {
		var g garden
		n := r.IntN(20)
		depth := 1 + r.IntN(4)
		if r.IntN(40) == 0 {
			depth = 5 + r.IntN(3)
		}
		root := g.plant(r, depth, &n)
		if len(g.pages) <= 190 {
			return g.pages, root, n
		}
	}
}

// P10.1, P10.2: of trees that are right, whatever their keys, their branches' and their items, all three calls are as a look at each item, one by one, tells.
func TestAgainstModel(t *testing.T) {
	for seed := range uint64(150) {
		r := rand.New(rand.NewPCG(seed, 10))
		pages, root, n := randomTree(r)
		items := itemsOf(pages)
		s := made(t, len(pages)-r.IntN(1+min(len(pages), api.MaxDirty)), pages)
		for i := range n + 3 {
			wantOf(t, s, root, numbered(i), items)
			wantOf(t, s, root, numbered(i)+"\x00", items)
			wantOf(t, s, root, numbered(i)[:r.IntN(3)], items)
		}
		if t.Failed() {
			t.Fatalf("seed %d", seed)
		}
	}
}

// hurt changes one thing on one of the pages, in whatever way.
func hurt(r *rand.Rand, pages []api.Page) {
	p := &pages[r.IntN(len(pages))]
	some := func() int { return 2 + r.IntN(len(pages)) }
	switch r.IntN(6) {
	case 0:
		for i := range p.Kids {
			p.Kids[i] = some()
		}
	case 1:
		if len(p.Keys) > 0 {
			p.Keys[1+r.IntN(len(p.Keys)-1)] = numbered(r.IntN(100))
		}
	case 2:
		if len(p.Items) > 0 {
			p.Items[r.IntN(len(p.Items))].Key = numbered(r.IntN(100))
		}
	case 3:
		other := []api.Page{noPage, overPage, dupPage, freePage, metaPage}
		*p = other[r.IntN(len(other))]
	case 4:
		if len(p.Kids) > 0 {
			p.Kids[r.IntN(len(p.Kids))] = 2 + r.IntN(398)
		}
	case 5:
		at := r.IntN(len(pages))
		*p, pages[at] = pages[at], *p
	}
}

// P10.1: of trees that aren't right each call comes back, with an error of the chapter and nothing beside it, or with a page's item that is far enough.
func TestHurtTrees(t *testing.T) {
	told := map[api.Errno]int{}
	for seed := range uint64(1500) {
		r := rand.New(rand.NewPCG(seed, 11))
		pages, _, n := randomTree(r)
		for range 1 + r.IntN(6) {
			hurt(r, pages)
		}
		s := store.New(fileOf(pages), 2+len(pages), 2+r.IntN(len(pages)+20), nil)
		was := stateOf(s)
		for range 20 {
			root, key := r.IntN(len(pages)+5), numbered(r.IntN(n+3))
			for _, c := range calls() {
				it, err := c.ask(s, root, key)
				var number api.Errno
				switch {
				case err == nil:
					there := slices.ContainsFunc(itemsOf(pages), func(x api.Item) bool { return sameItem(x, it) })
					if !there || it.Key < key || c.name == "Get" && it.Key != key || c.name == "Behind" && it.Key == key {
						t.Fatalf("seed %d: %s(%d, %q): %v", seed, c.name, root, key, it)
					}
				case !errors.As(err, &number) || !slices.Contains([]api.Errno{api.ErrCorrupt, api.ErrMap, api.ErrNone}, number) || !sameItem(it, none):
					t.Fatalf("seed %d: %s(%d, %q): %v, %v", seed, c.name, root, key, it, err)
				}
				told[number]++
			}
		}
		if !stateOf(s).same(was) {
			t.Fatalf("seed %d: the store is changed", seed)
		}
	}
	for _, number := range []api.Errno{api.OK, api.ErrCorrupt, api.ErrMap, api.ErrNone} {
		if told[number] < 1000 {
			t.Errorf("code %d was told %d times only", number, told[number])
		}
	}
}
