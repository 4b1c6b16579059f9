package tree_test

import (
	"errors"
	"math/rand/v2"
	"slices"
	"strings"
	"testing"

	"copyhold/api"
	"copyhold/store"
	"copyhold/tree"
)

// model: the chapter's words about the pages of a file, from number 2 on, of which those below most can be seen.
type model struct {
	pages []api.Page
	most  int
}

// look gives page id, so deep, and its error.
func (m model) look(id, depth int) (api.Page, error) {
	if id < 2 || id >= m.most {
		return api.Page{}, api.ErrMap
	}
	if id-2 >= len(m.pages) || m.pages[id-2].Kind != api.PLeaf && m.pages[id-2].Kind != api.PBranch || depth > 8 {
		return api.Page{}, api.ErrCorrupt
	}
	return m.pages[id-2], nil
}

// fault gives the first error of what hangs on page id.
func (m model) fault(id, depth int) error {
	p, err := m.look(id, depth)
	for _, kid := range p.Kids {
		if err == nil {
			err = m.fault(kid, depth+1)
		}
	}
	return err
}

func (m model) items(id int) []api.Item {
	p, _ := m.look(id, 1)
	items := slices.Clone(p.Items)
	for _, kid := range p.Kids {
		items = append(items, m.items(kid)...)
	}
	return items
}

func (m model) shape(id int) string {
	p, _ := m.look(id, 1)
	if p.Kind == api.PBranch {
		out := "["
		for _, kid := range p.Kids {
			out += m.shape(kid)
		}
		return out + "]"
	}
	var keys []string
	for _, it := range p.Items {
		keys = append(keys, it.Key)
	}
	return "(" + strings.Join(keys, " ") + ")"
}

// numbers gives how often each page is there.
func (m model) numbers(id int, count map[int]int) {
	p, _ := m.look(id, 1)
	count[id]++
	for _, it := range p.Items {
		for i := 0; it.Kind == api.ILong && i*api.OverBytes < it.Len; i++ {
			count[it.Run+i]++
		}
		if it.Dup != 0 {
			count[it.Dup]++
		}
	}
	for _, kid := range p.Kids {
		m.numbers(kid, count)
	}
}

// leaves tells how deep each leaf lies.
func (m model) leaves(id, depth int) []int {
	p, _ := m.look(id, 1)
	if p.Kind == api.PLeaf {
		return []int{depth}
	}
	var l []int
	for _, kid := range p.Kids {
		l = append(l, m.leaves(kid, depth+1)...)
	}
	return l
}

// ordered tells whether the keys of each child lie from its key on and below the next one, of each branch by itself.
func (m model) ordered(id int) bool {
	p, _ := m.look(id, 1)
	for i, kid := range p.Kids {
		for _, it := range m.items(kid) {
			if it.Key < p.Keys[i] || i+1 < len(p.Keys) && it.Key >= p.Keys[i+1] {
				return false
			}
		}
		if !m.ordered(kid) {
			return false
		}
	}
	return true
}

func (m model) filled(id int) bool {
	p, _ := m.look(id, 1)
	for _, kid := range p.Kids {
		if k, _ := m.look(kid, 1); len(k.Items)+len(k.Kids) < api.Least || !m.filled(kid) {
			return false
		}
	}
	return true
}

func (m model) right(id int) bool {
	count := map[int]int{}
	m.numbers(id, count)
	for _, n := range count {
		if n > 1 {
			return false
		}
	}
	return len(slices.Compact(m.leaves(id, 1))) == 1 && m.ordered(id) && m.filled(id)
}

// wantLike holds what tree tells of a root against the model.
func wantLike(t *testing.T, s *store.Store, m model, root int) bool {
	t.Helper()
	if root == 0 {
		wantShape(t, s, 0, "-")
		return false
	}
	if err := m.fault(root, 1); err != nil {
		var number api.Errno
		errors.As(err, &number)
		wantError(t, "by the model", s, root, number)
		return false
	}
	count := map[int]int{}
	m.numbers(root, count)
	var row []int
	for id := range 500 {
		if count[id] > 0 {
			row = append(row, id)
		}
	}
	wantItems(t, s, root, m.items(root))
	wantShape(t, s, root, m.shape(root))
	wantPages(t, s, root, row...)
	wantRight(t, m.shape(root), s, root, m.right(root))
	return tree.Right(s, root)
}

// randomItem gives an item of any kind; where it has pages beside the tree, they lie from 200 on, far enough from each other mostly.
func randomItem(r *rand.Rand, key string) api.Item {
	switch r.IntN(12) {
	case 0:
		return long(key, 200+r.IntN(180), 13+r.IntN(988))
	case 1:
		return manyOn(key, 200+r.IntN(180))
	case 2:
		return many(key, "x", "y", "z")
	case 3:
		return root(key, r.IntN(5)*3)
	}
	return val(key)
}

// plant adds a tree that is right, so deep, with keys from n on, and gives its root.
func (g *garden) plant(r *rand.Rand, depth int, n *int) int {
	most := api.Fan
	if depth > 4 {
		most = api.Least
	}
	size := api.Least + r.IntN(most-api.Least+1)
	p := api.Page{Kind: api.PBranch}
	if depth == 1 {
		p.Kind = api.PLeaf
		for range size {
			*n += 1 + r.IntN(3)
			p.Items = append(p.Items, randomItem(r, key(*n)))
		}
		return g.add(p)
	}
	for i := range size {
		low := key(*n + 1)
		if i == 0 {
			low = ""
		}
		p.Kids, p.Keys = append(p.Kids, g.plant(r, depth-1, n)), append(p.Keys, low)
	}
	return g.add(p)
}

func key(n int) string {
	return string([]byte{'a' + byte(n/26/26%26), 'a' + byte(n/26%26), 'a' + byte(n%26)})
}

// hurt changes one thing on one of the pages, in whatever way.
func hurt(r *rand.Rand, pages []api.Page) {
	p := &pages[r.IntN(len(pages))]
	some := func() int { return 2 + r.IntN(len(pages)) }
	switch r.IntN(9) {
	case 0:
		if len(p.Kids) > 0 {
			p.Kids[r.IntN(len(p.Kids))] = some()
		}
	case 1:
		if len(p.Keys) > 0 {
			p.Keys[1+r.IntN(len(p.Keys)-1)] = key(r.IntN(100))
		}
	case 2:
		if len(p.Items) > 0 {
			p.Items[r.IntN(len(p.Items))].Key = key(r.IntN(100))
		}
	case 3:
		p.Items = p.Items[:len(p.Items)-min(len(p.Items), 1)]
	case 4:
		if len(p.Items) > 0 {
			p.Items[r.IntN(len(p.Items))] = manyOn(p.Items[0].Key, some())
		}
	case 5:
		if len(p.Kids) > 2 {
			p.Kids, p.Keys = p.Kids[:2], p.Keys[:2]
		}
	case 6:
		other := []api.Page{noPage, overPage, dupPage, freePage, metaPage}
		*p = other[r.IntN(len(other))]
	case 7:
		if len(p.Kids) > 0 {
			p.Kids[r.IntN(len(p.Kids))] = 2 + r.IntN(398)
		}
	case 8:
		at := r.IntN(len(pages))
		*p, pages[at] = pages[at], *p
	}
}

// P9.1: of trees that are right, and of such that were hurt here and there, all that is told is as the chapter's words say.
func TestAgainstModel(t *testing.T) {
	right, hurts := 0, 0
	for seed := range uint64(3000) {
		r := rand.New(rand.NewPCG(seed, 9))
		var g garden
		n := 0
		depth := 1 + r.IntN(4)
		if r.IntN(40) == 0 {
			depth = 5 + r.IntN(3)
		}
		root := g.plant(r, depth, &n)
		if len(g.pages) > 190 {
			continue
		}
		for range r.IntN(3) {
			hurt(r, g.pages)
			hurts++
		}
		m := model{pages: whole(g.pages), most: api.MaxPages}
		if r.IntN(4) == 0 {
			m.most = 2 + r.IntN(len(g.pages)+10)
		}
		s := store.New(fileOf(g.pages), 2+len(g.pages), m.most, nil)
		for _, at := range []int{root, 2 + r.IntN(len(g.pages)), r.IntN(m.most + 5)} {
			if wantLike(t, s, m, at) {
				right++
			}
		}
		if t.Failed() {
			t.Fatalf("seed %d", seed)
		}
	}
	if right < 1000 || hurts < 1000 {
		t.Errorf("of too few kinds: %d right, %d hurt", right, hurts)
	}
}

// whole gives the pages, and no page where it isn't one: what a file that was made of them has.
func whole(pages []api.Page) []api.Page {
	f := fileOf(pages)
	s := store.New(f, f.Len(), api.MaxPages, nil)
	var l []api.Page
	for i := range pages {
		p, _ := s.Read(2 + i)
		l = append(l, p)
	}
	return l
}
