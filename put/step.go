package put

import (
	"slices"

	"copyhold/api"
	"copyhold/store"
)

const (
	deepest = 8                 // pages from the root to a leaf, these two counted
	half    = (api.Fan + 2) / 2 // what stays of one more than Fan, rounded up
)

// step: a page of the way from the root to a leaf, by its dirty number; of a branch, which child the way goes on with.
type step struct {
	id   int
	page api.Page
	kid  int
}

// twig: a page that was split off, and its key in the branch above; there is none of number 0.
type twig struct {
	id  int
	key string
}

// touch makes page id dirty. What no tree has there it refuses ahead of that; the store's errors come first, as they do where a tree is listed.
func touch(s *store.Store, id, depth int) (*step, error) {
	p, err := s.Read(id)
	if err != nil {
		return nil, err
	}
	if p.Kind != api.PLeaf && p.Kind != api.PBranch || depth > deepest {
		return nil, api.ErrCorrupt
	}
	n, err := s.Touch(id)
	if err != nil {
		return nil, err
	}
	return &step{id: n, page: p}, nil
}

// hang puts below in place of the child on the way, and behind it what was split off that one.
func (at *step) hang(below int, off twig) {
	p, behind := &at.page, at.kid+1
	p.Kids[at.kid] = below
	if off.id != 0 {
		p.Keys = slices.Insert(p.Keys, behind, off.key)
		p.Kids = slices.Insert(p.Kids, behind, off.id)
	}
}

// lay puts the page on its number; one that is too full is split, and what is split off it given.
func (at *step) lay(s *store.Store) (twig, error) {
	p := at.page
	if len(p.Items)+len(p.Kids) <= api.Fan {
		return twig{}, s.Set(at.id, p)
	}
	low, high, key := split(p)
	if err := s.Set(at.id, low); err != nil {
		return twig{}, err
	}
	id, err := s.Add(high)
	return twig{id: id, key: key}, err
}

// split gives the halves of a page, and the key that parts them: a branch's first one is none of its own, the one that stood there goes up.
func split(p api.Page) (low, high api.Page, key string) {
	low.Kind, high.Kind = p.Kind, p.Kind
	if p.Kind == api.PLeaf {
		low.Items, high.Items = p.Items[:half], p.Items[half:]
		return low, high, high.Items[0].Key
	}
	low.Keys, high.Keys = p.Keys[:half], p.Keys[half:]
	low.Kids, high.Kids = p.Kids[:half], p.Kids[half:]
	key, high.Keys[0] = high.Keys[0], ""
	return low, high, key
}
