package cut_test

import (
	"errors"
	"maps"
	"math/rand/v2"
	"slices"
	"testing"

	"copyhold/api"
	"copyhold/cut"
	"copyhold/page"
	"copyhold/put"
	"copyhold/store"
)

// model: what the chapters' words say of a store, and of what is taken out.
type model struct {
	file, made            map[int]api.Page // what has no page is corrupt
	freed, avail          map[int]bool
	last, most            int
	joins, halves, shrunk int // so many were joined, halved, and roots that went
}

// modelOf gives a model of a store that sees so many pages, and of what it made, which is none.
func modelOf(s *store.Store, most int) *model {
	m := &model{file: map[int]api.Page{}, made: map[int]api.Page{}, freed: map[int]bool{}, avail: map[int]bool{}, last: s.Last(), most: most}
	for id := range most {
		if p, err := s.Read(id); err == nil {
			m.file[id] = p
		}
	}
	for _, id := range s.Avail() {
		m.avail[id] = true
	}
	return m
}

func (m *model) copy() *model {
	c := *m
	c.made, c.freed, c.avail = maps.Clone(m.made), maps.Clone(m.freed), maps.Clone(m.avail)
	return &c
}

func (m *model) read(id int) (api.Page, error) {
	if id < 2 || id >= m.most {
		return api.Page{}, api.ErrMap
	}
	p, ok := m.made[id]
	if !ok {
		p = m.file[id]
	}
	if p.Kind == 0 {
		return api.Page{}, api.ErrCorrupt
	}
	p.Items, p.Keys, p.Kids = slices.Clone(p.Items), slices.Clone(p.Keys), slices.Clone(p.Kids)
	return p, nil
}

func (m *model) set(id int, p api.Page) error {
	if _, ok := m.made[id]; !ok || !page.Is(p) {
		return api.ErrCorrupt
	}
	m.made[id] = p
	return nil
}

func (m *model) drop(id int) {
	if _, ok := m.made[id]; ok {
		delete(m.made, id)
		m.avail[id] = true
	} else if id >= 2 && id < m.last && !m.avail[id] {
		m.freed[id] = true
	}
}

// touch gives the dirty number of page id, and what is there, if it is of one of these kinds.
func (m *model) touch(id int, kinds ...int) (int, api.Page, error) {
	p, err := m.read(id)
	if err != nil {
		return 0, api.Page{}, err
	}
	if !slices.Contains(kinds, p.Kind) {
		return 0, api.Page{}, api.ErrCorrupt
	}
	if _, ok := m.made[id]; ok {
		return id, p, nil
	}
	if len(m.made) >= api.MaxDirty {
		return 0, api.Page{}, api.ErrTxn
	}
	n := m.last
	if len(m.avail) > 0 {
		n = slices.Min(slices.Collect(maps.Keys(m.avail)))
		delete(m.avail, n)
	} else if m.last++; n >= m.most {
		return 0, api.Page{}, api.ErrMap
	}
	m.made[n] = p
	m.drop(id)
	return n, p, nil
}

// child tells which child of a branch has key.
func child(p api.Page, key string) int {
	at := 0
	for i, low := range p.Keys {
		if low <= key {
			at = i
		}
	}
	return at
}

// there is find's Get, but for the item.
func (m *model) there(id int, key string) error {
	for depth := 1; ; depth++ {
		p, err := m.read(id)
		switch {
		case id == 0:
			return api.ErrNone
		case err != nil:
			return err
		case p.Kind != api.PLeaf && p.Kind != api.PBranch || depth > 8:
			return api.ErrCorrupt
		case p.Kind == api.PBranch:
			id = p.Kids[child(p, key)]
			continue
		}
		for _, it := range p.Items {
			if it.Key == key {
				return nil
			}
		}
		return api.ErrNone
	}
}

// cut is the chapter's Cut below find's Get, from a page so deep on: its number, and what is to be there, which isn't Set yet.
func (m *model) cut(id, depth int, key string) (int, api.Page, error) {
	kinds := []int{api.PLeaf, api.PBranch}
	if depth > 8 {
		kinds = nil
	}
	id, p, err := m.touch(id, kinds...)
	if err != nil {
		return 0, api.Page{}, err
	}
	if p.Kind == api.PLeaf {
		p.Items = slices.DeleteFunc(p.Items, func(it api.Item) bool { return it.Key == key })
		return id, p, nil
	}
	at := child(p, key)
	kid, q, err := m.cut(p.Kids[at], depth+1, key)
	if err != nil {
		return 0, api.Page{}, err
	}
	p.Kids[at] = kid
	if len(q.Items) > 1 || len(q.Kids) > 1 {
		return id, p, m.set(kid, q)
	}
	if at == 0 {
		other, behind, err := m.touch(p.Kids[1], q.Kind)
		if err != nil {
			return 0, api.Page{}, err
		}
		p, err = m.join(p, 0, kid, other, q, behind)
		return id, p, err
	}
	other, ahead, err := m.touch(p.Kids[at-1], q.Kind)
	if err != nil {
		return 0, api.Page{}, err
	}
	p, err = m.join(p, at-1, other, kid, ahead, q)
	return id, p, err
}

// join gives the branch p whose children i and the next one, with these numbers, are joined.
func (m *model) join(p api.Page, i, left, right int, low, high api.Page) (api.Page, error) {
	items := append(low.Items, high.Items...)
	kids := append(low.Kids, high.Kids...)
	var keys []string
	if low.Kind == api.PBranch {
		keys = slices.Concat(low.Keys, []string{p.Keys[i+1]}, high.Keys[1:])
	}
	up := api.Page{Kind: api.PBranch}
	if len(items)+len(kids) <= 4 {
		m.joins++
		up.Keys = slices.Concat(p.Keys[:i+1], p.Keys[i+2:])
		up.Kids = slices.Concat(p.Kids[:i], []int{left}, p.Kids[i+2:])
		m.drop(right)
		return up, m.set(left, api.Page{Kind: low.Kind, Items: items, Keys: keys, Kids: kids})
	}
	m.halves++
	one, two := api.Page{Kind: low.Kind}, api.Page{Kind: low.Kind}
	var key string
	if low.Kind == api.PLeaf {
		one.Items, two.Items, key = items[:3], items[3:], items[3].Key
	} else {
		one.Keys, two.Keys, key = keys[:3], []string{"", keys[4]}, keys[3]
		one.Kids, two.Kids = kids[:3], kids[3:]
	}
	up.Keys = slices.Concat(p.Keys[:i+1], []string{key}, p.Keys[i+2:])
	up.Kids = slices.Concat(p.Kids[:i], []int{left, right}, p.Kids[i+2:])
	if err := m.set(left, one); err != nil {
		return api.Page{}, err
	}
	return up, m.set(right, two)
}

// root is the chapter's Cut as a whole: with an error nothing is changed.
func (m *model) root(id int, key string) (int, error) {
	if err := m.there(id, key); err != nil {
		return 0, err
	}
	c := m.copy()
	top, p, err := c.cut(id, 1, key)
	if err != nil {
		return 0, err
	}
	switch {
	case len(p.Items)+len(p.Kids) == 0:
		c.drop(top)
		top = 0
	case len(p.Kids) == 1:
		c.drop(top)
		c.shrunk++
		top = p.Kids[0]
	default:
		if err := c.set(top, p); err != nil {
			return 0, err
		}
	}
	*m = *c
	return top, nil
}

// wantLike holds the store's pages and numbers against the model's.
func (m *model) wantLike(t *testing.T, s *store.Store) {
	t.Helper()
	wantNumbers(t, s, slices.Sorted(maps.Keys(m.made)), slices.Sorted(maps.Keys(m.freed)), slices.Sorted(maps.Keys(m.avail)), m.last)
	for id := range min(m.last+1, m.most) {
		got, gotErr := s.Read(id)
		want, err := m.read(id)
		if !page.Same(got, want) || !errors.Is(gotErr, err) {
			t.Errorf("page %d: %v, %v; not %v, %v", id, got, gotErr, want, err)
		}
	}
}

// numbered gives the n-th of keys that rise with n.
func numbered(n int) string { return string([]byte{'a' + byte(n/26%26), 'a' + byte(n%26)}) }

// ofAnyKind gives an item of this key, of some kind.
func ofAnyKind(r *rand.Rand, key string) api.Item {
	if r.IntN(3) > 0 {
		return val(key)
	}
	all := ofKinds(key)
	x := all[r.IntN(len(all))]
	if x.Kind == api.ILong || x.Dup != 0 {
		return val(key) // no two of these may have the same pages
	}
	return x
}

// P12.1, P12.3: of trees that grow and shrink key by key, over several commits, each page and each number is as the chapter's words say, and all other items are there.
func TestAgainstModel(t *testing.T) {
	joins, halves, shrunk, gone := 0, 0, 0, 0
	for seed := range uint64(50) {
		r := rand.New(rand.NewPCG(seed, 21))
		wide, each := 20+r.IntN(200), 1+r.IntN(30)
		s, root, items := stored(), 0, map[string]api.Item{}
		for range 30 + r.IntN(150) {
			x := ofAnyKind(r, numbered(r.IntN(wide)))
			id, err := put.Put(s, root, x)
			if err != nil {
				break // as many dirty pages as may be
			}
			root, items[x.Key] = id, x
		}
		var m *model
		for i := 0; len(items) > 0; i++ {
			if i%each == 0 {
				s = committed(s)
				m = modelOf(s, api.MaxPages)
			}
			keys := slices.Sorted(maps.Keys(items))
			key := keys[r.IntN(len(keys))]
			if r.IntN(4) == 0 {
				key = numbered(r.IntN(wide))
			}
			got, err := cut.Cut(s, root, key)
			want, wantErr := m.root(root, key)
			if _, there := items[key]; got != want || !errors.Is(err, wantErr) || there != (err == nil) {
				t.Errorf("Cut(%d, %q): %d, %v; not %d, %v", root, key, got, err, want, wantErr)
			}
			m.wantLike(t, s)
			if err == nil {
				delete(items, key)
				root = got
			}
			wantItems(t, s, root, items)
			if t.Failed() {
				t.Fatalf("seed %d, %d", seed, i)
			}
			joins, halves, shrunk, gone = joins+m.joins, halves+m.halves, shrunk+m.shrunk, gone+1
			m.joins, m.halves, m.shrunk = 0, 0, 0
		}
		if root != 0 || len(s.Dirty()) > 0 {
			t.Errorf("seed %d: the root is %d; dirty %v", seed, root, s.Dirty())
		}
	}
	if joins < 500 || halves < 100 || shrunk < 50 || gone < 1000 {
		t.Errorf("of too few kinds: %d joined, %d halved, %d roots, of %d", joins, halves, shrunk, gone)
	}
}

// wantItems: the tree is right, and has just these items.
func wantItems(t *testing.T, s *store.Store, root int, items map[string]api.Item) {
	t.Helper()
	wantKeysAs(t, s, root, slices.Sorted(maps.Keys(items)), func(key string) api.Item { return items[key] })
}

// plant adds a tree that is right, so deep, with keys from n on, and gives its root. The keys of branches lie anywhere between the last key ahead and the first one behind, or are that one.
func plant(r *rand.Rand, pages *[]api.Page, depth int, n *int) int {
	size := api.Least + r.IntN(api.Fan-api.Least+1)
	p := api.Page{Kind: api.PLeaf}
	if depth > 1 {
		p = api.Page{Kind: api.PBranch}
	}
	for i := range size {
		if depth == 1 {
			p.Items = append(p.Items, val(numbered(*n)))
			*n += 1 + r.IntN(3)
			continue
		}
		low := ""
		if i > 0 {
			low = numbered(*n)
			*n += r.IntN(3)
		}
		p.Kids, p.Keys = append(p.Kids, plant(r, pages, depth-1, n)), append(p.Keys, low)
	}
	*pages = append(*pages, p)
	return 1 + len(*pages)
}

// hurt changes one thing on one of the pages, in whatever way.
func hurt(r *rand.Rand, pages []api.Page) {
	p := &pages[r.IntN(len(pages))]
	switch r.IntN(6) {
	case 0:
		for i := range p.Kids {
			p.Kids[i] = 2 + r.IntN(len(pages))
		}
	case 1:
		if len(p.Keys) > 0 {
			p.Keys[1+r.IntN(len(p.Keys)-1)] = numbered(r.IntN(100))
		}
	case 2:
		if len(p.Items) > 0 {
			p.Items[r.IntN(len(p.Items))] = val(numbered(r.IntN(100)))
		}
	case 3:
		*p = others()[r.IntN(5)]
	case 4:
		if len(p.Kids) > 0 {
			p.Kids[r.IntN(len(p.Kids))] = 2 + r.IntN(398)
		}
	case 5:
		at := r.IntN(len(pages))
		*p, pages[at] = pages[at], *p
	}
}

// P12.1: of trees with branches' keys of any kind, right or hurt, with few numbers left or many, each call answers as the chapter's words say, with an error of the chapter, which changes nothing, or none.
func TestPlantedAgainstModel(t *testing.T) {
	told := map[api.Errno]int{}
	for seed := range uint64(700) {
		r := rand.New(rand.NewPCG(seed, 22))
		var pages []api.Page
		n := r.IntN(20)
		root := plant(r, &pages, 1+r.IntN(4), &n)
		if len(pages) > 100 {
			continue
		}
		for range r.IntN(3) {
			hurt(r, pages)
		}
		last := 2 + len(pages)
		var avail []int
		if r.IntN(3) == 0 {
			avail = []int{last - 1, last - 2, 2 + r.IntN(len(pages))}
		}
		most, beside := last+r.IntN(15), 0
		if r.IntN(2) == 0 {
			most, beside = api.MaxPages, api.MaxDirty-r.IntN(15)
		}
		s := storedAs(pages, last, most, avail)
		m := modelOf(s, most)
		for range beside {
			if id, err := s.Add(leaf("x")); err == nil {
				m.made[id] = leaf("x")
				m.last = s.Last()
				delete(m.avail, id)
			}
		}
		for range 20 {
			key := numbered(r.IntN(n + 3))
			got, err := cut.Cut(s, root, key)
			want, wantErr := m.root(root, key)
			var number api.Errno
			if err != nil && !errors.As(err, &number) || got != want || !errors.Is(err, wantErr) {
				t.Fatalf("seed %d: Cut(%d, %q): %d, %v; not %d, %v", seed, root, key, got, err, want, wantErr)
			}
			m.wantLike(t, s)
			if t.Failed() {
				t.Fatalf("seed %d: Cut(%d, %q)", seed, root, key)
			}
			told[number]++
			if err == nil {
				root = got
			}
		}
	}
	for _, number := range []api.Errno{api.OK, api.ErrCorrupt, api.ErrMap, api.ErrTxn, api.ErrNone} {
		if told[number] < 100 {
			t.Errorf("code %d was told %d times only", number, told[number])
		}
	}
}
