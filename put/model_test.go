package put_test

import (
	"cmp"
	"errors"
	"maps"
	"math/rand/v2"
	"slices"
	"testing"

	"copyhold/api"
	"copyhold/page"
	"copyhold/put"
	"copyhold/store"
	"copyhold/tree"
)

// model: what the chapters' words say of a store, and of what is put in.
type model struct {
	file, made  map[int]api.Page // what has no page is corrupt
	freed       map[int]bool
	avail       map[int]bool
	last, most  int
	pages, adds int // so many were split off, and new roots
}

// modelOf gives a model of a store that sees so many pages, and made none yet.
func modelOf(s *store.Store, most int) *model {
	m := &model{file: map[int]api.Page{}, made: map[int]api.Page{}, freed: map[int]bool{}, avail: map[int]bool{}, last: s.Last(), most: most}
	for id := range most {
		if p, err := s.Read(id); err == nil {
			m.file[id] = p
		}
	}
	for _, id := range s.Avail() {
		m.avail[id] = true
	}
	return m
}

func (m *model) read(id int) (api.Page, error) {
	if id < 2 || id >= m.most {
		return api.Page{}, api.ErrMap
	}
	p, ok := m.made[id]
	if !ok {
		p = m.file[id]
	}
	if p.Kind == 0 {
		return api.Page{}, api.ErrCorrupt
	}
	p.Items, p.Keys, p.Kids = slices.Clone(p.Items), slices.Clone(p.Keys), slices.Clone(p.Kids)
	return p, nil
}

func (m *model) set(id int, p api.Page) error {
	if _, ok := m.made[id]; !ok || !page.Is(p) {
		return api.ErrForm
	}
	m.made[id] = p
	return nil
}

func (m *model) add(p api.Page) (int, error) {
	if !page.Is(p) {
		return 0, api.ErrForm
	}
	if len(m.made) >= api.MaxDirty {
		return 0, api.ErrTxn
	}
	id := m.last
	if len(m.avail) > 0 {
		id = slices.Min(slices.Collect(maps.Keys(m.avail)))
		delete(m.avail, id)
	} else if m.last++; id >= m.most {
		return 0, api.ErrMap
	}
	m.made[id] = p
	return id, nil
}

func (m *model) touch(id int) (int, error) {
	if _, ok := m.made[id]; ok {
		return id, nil
	}
	p, err := m.read(id)
	if err != nil {
		return 0, err
	}
	n, err := m.add(p)
	if err != nil {
		return 0, err
	}
	if n == id {
		delete(m.made, id)
		m.avail[id] = true
	} else if id < m.last && !m.avail[id] {
		m.freed[id] = true
	}
	return n, nil
}

// put is the chapter's Put, from a page so deep on: what stands in place of the page, and what was split off it with its key, if it was.
func (m *model) put(id, depth int, x api.Item) (stays, off int, key string, err error) {
	p, err := m.read(id)
	if err == nil && (p.Kind != api.PLeaf && p.Kind != api.PBranch || depth > 8) {
		err = api.ErrCorrupt
	}
	if err == nil {
		stays, err = m.touch(id)
	}
	if err != nil {
		return 0, 0, "", err
	}
	if p.Kind == api.PLeaf {
		p.Items = slices.DeleteFunc(p.Items, func(it api.Item) bool { return it.Key == x.Key })
		p.Items = append(p.Items, x)
		slices.SortFunc(p.Items, func(a, b api.Item) int { return cmp.Compare(a.Key, b.Key) })
	} else {
		at := 0
		for i, low := range p.Keys {
			if low <= x.Key {
				at = i
			}
		}
		p.Kids[at], off, key, err = m.put(p.Kids[at], depth+1, x)
		if err != nil {
			return 0, 0, "", err
		}
		if off != 0 {
			p.Kids = slices.Concat(p.Kids[:at+1], []int{off}, p.Kids[at+1:])
			p.Keys = slices.Concat(p.Keys[:at+1], []string{key}, p.Keys[at+1:])
		}
	}
	if len(p.Items) < 5 && len(p.Kids) < 5 {
		return stays, 0, "", m.set(stays, p)
	}
	return m.split(stays, p)
}

func (m *model) split(id int, p api.Page) (stays, off int, key string, err error) {
	low, high := api.Page{Kind: p.Kind}, api.Page{Kind: p.Kind}
	if p.Kind == api.PLeaf {
		low.Items, high.Items, key = p.Items[:3], p.Items[3:], p.Items[3].Key
	} else {
		low.Kids, high.Kids, key = p.Kids[:3], p.Kids[3:], p.Keys[3]
		low.Keys, high.Keys = p.Keys[:3], []string{"", p.Keys[4]}
	}
	if err = m.set(id, low); err == nil {
		off, err = m.add(high)
	}
	m.pages++
	return id, off, key, err
}

// root is the chapter's Put as a whole.
func (m *model) root(id int, x api.Item) (int, error) {
	if !page.Is(leafOf(x)) {
		return 0, api.ErrForm
	}
	if id == 0 {
		return m.add(leafOf(x))
	}
	stays, off, key, err := m.put(id, 1, x)
	if err != nil {
		return 0, err
	}
	if off == 0 {
		return stays, nil
	}
	m.adds++
	return m.add(branch(key, stays, off))
}

// wantLike holds the store's pages and numbers against the model's.
func (m *model) wantLike(t *testing.T, s *store.Store) {
	t.Helper()
	wantNumbers(t, s, slices.Sorted(maps.Keys(m.made)), slices.Sorted(maps.Keys(m.freed)), slices.Sorted(maps.Keys(m.avail)), m.last)
	for id := range min(m.last+1, m.most) {
		got, gotErr := s.Read(id)
		want, err := m.read(id)
		if !page.Same(got, want) || !errors.Is(gotErr, err) {
			t.Errorf("page %d: %v, %v; not %v, %v", id, got, gotErr, want, err)
		}
	}
}

// numbered gives the n-th of keys that rise with n.
func numbered(n int) string { return string([]byte{'a' + byte(n/26%26), 'a' + byte(n%26)}) }

// wantAll: the tree is right, and has just these items.
func wantAll(t *testing.T, s *store.Store, root int, items map[string]api.Item) {
	t.Helper()
	var want []api.Item
	for _, key := range slices.Sorted(maps.Keys(items)) {
		want = append(want, items[key])
	}
	got, err := tree.List(s, root)
	if err != nil || !slices.EqualFunc(got, want, sameItem) || root != 0 && !tree.Right(s, root) {
		t.Errorf("the tree has %v, %v; not %v", got, err, want)
	}
}

// P11.1, P11.2: of trees that grow key by key, over several commits, each page and each number is as the chapter's words say, and all items are there.
func TestAgainstModel(t *testing.T) {
	splits, roots, replaced := 0, 0, 0
	for seed := range uint64(25) {
		r := rand.New(rand.NewPCG(seed, 11))
		wide, each := 20+r.IntN(300), 1+r.IntN(30)
		s, root, items := stored(), 0, map[string]api.Item{}
		m := modelOf(s, api.MaxPages)
		for i := range 80 + r.IntN(150) {
			if i%each == 0 {
				splits, roots = splits+m.pages, roots+m.adds
				s = committed(s)
				m = modelOf(s, api.MaxPages)
			}
			key := numbered(r.IntN(wide))
			x := api.Item{Key: key, Kind: api.IVal, Val: numbered(i)}
			if r.IntN(6) == 0 {
				x = api.Item{Key: key, Kind: api.IDup, Vals: []string{"x", "y"}}
			}
			if _, there := items[key]; there {
				replaced++
			}
			items[key] = x
			top := wantPut(t, s, root, x)
			if want, err := m.root(root, x); top != want || err != nil {
				t.Errorf("Put: %d, not %d, %v", top, want, err)
			}
			m.wantLike(t, s)
			wantAll(t, s, top, items)
			if t.Failed() {
				t.Fatalf("seed %d, %d", seed, i)
			}
			root = top
		}
	}
	if splits < 300 || roots < 40 || replaced < 300 {
		t.Errorf("of too few kinds: %d splits, %d new roots, %d replaced", splits, roots, replaced)
	}
}

// plant adds a tree that is right, so deep, with keys from n on, and gives its root. The keys of branches lie anywhere between the last key ahead and the first one behind, or are that one.
func plant(r *rand.Rand, pages *[]api.Page, depth int, n *int) int {
	size := api.Least + r.IntN(api.Fan-api.Least+1)
	p := api.Page{Kind: api.PLeaf}
	if depth > 1 {
		p = api.Page{Kind: api.PBranch}
	}
	for i := range size {
		if depth == 1 {
			p.Items = append(p.Items, val(numbered(*n)))
			*n += 1 + r.IntN(3)
			continue
		}
		low := ""
		if i > 0 {
			low = numbered(*n)
			*n += r.IntN(3)
		}
		p.Kids, p.Keys = append(p.Kids, plant(r, pages, depth-1, n)), append(p.Keys, low)
	}
	*pages = append(*pages, p)
	return 1 + len(*pages)
}

// hurt changes one thing on one of the pages, in whatever way.
func hurt(r *rand.Rand, pages []api.Page) {
	p := &pages[r.IntN(len(pages))]
	switch r.IntN(6) {
	case 0:
		for i := range p.Kids {
			p.Kids[i] = 2 + r.IntN(len(pages))
		}
	case 1:
		if len(p.Keys) > 0 {
			p.Keys[1+r.IntN(len(p.Keys)-1)] = numbered(r.IntN(100))
		}
	case 2:
		if len(p.Items) > 0 {
			p.Items[r.IntN(len(p.Items))] = val(numbered(r.IntN(100)))
		}
	case 3:
		*p = others()[r.IntN(5)]
	case 4:
		if len(p.Kids) > 0 {
			p.Kids[r.IntN(len(p.Kids))] = 2 + r.IntN(398)
		}
	case 5:
		at := r.IntN(len(pages))
		*p, pages[at] = pages[at], *p
	}
}

// P11.1: of trees with branches' keys of any kind, right or hurt, with few numbers left or many, each call answers as the chapter's words say, with an error of the chapter or none.
func TestPlantedAgainstModel(t *testing.T) {
	told := map[api.Errno]int{}
	for seed := range uint64(3000) {
		r := rand.New(rand.NewPCG(seed, 12))
		var pages []api.Page
		n := r.IntN(20)
		root := plant(r, &pages, 1+r.IntN(4), &n)
		if len(pages) > 100 {
			continue
		}
		for range r.IntN(3) {
			hurt(r, pages)
		}
		last := 2 + len(pages)
		var avail []int
		if r.IntN(3) == 0 {
			avail = []int{last - 1, last - 2, 2 + r.IntN(len(pages))}
		}
		most, beside := last+r.IntN(30), 0
		if r.IntN(2) == 0 {
			most, beside = api.MaxPages, api.MaxDirty-r.IntN(30)
		}
		s := storedAs(pages, last, most, avail)
		m := modelOf(s, most)
		for range beside {
			s.Add(leaf("x"))
			m.add(leaf("x"))
		}
		for range 20 {
			x := val(numbered(r.IntN(n + 3)))
			got, err := put.Put(s, root, x)
			want, wantErr := m.root(root, x)
			var number api.Errno
			if err != nil && !errors.As(err, &number) || got != want || !errors.Is(err, wantErr) {
				t.Fatalf("seed %d: Put(%d, %q): %d, %v; not %d, %v", seed, root, x.Key, got, err, want, wantErr)
			}
			told[number]++
			if err != nil {
				break // nothing is promised of the store any more
			}
			root = got
		}
	}
	for _, number := range []api.Errno{api.OK, api.ErrForm, api.ErrCorrupt, api.ErrMap, api.ErrTxn} {
		if told[number] < 20 {
			t.Errorf("code %d was told %d times only", number, told[number])
		}
	}
}
