// Package way: the pages from a root down to the leaf of a key, made dirty, and a page's halves: what packages put and cut have in common.
package way

import (
	"slices"

	"copyhold/api"
	"copyhold/store"
)

const deepest = 8 // pages from the root to a leaf, these two counted

// Step: a page of the way, by its dirty number; of a branch, which child the way goes on with.
type Step struct {
	ID   int
	Page api.Page
	Kid  int
}

// Down makes the pages from the root to the leaf on which key is, or would be, dirty, and gives them.
func Down(s *store.Store, root int, key string) ([]*Step, error) {
	var steps []*Step
	id := root
pages:
	for {
		at, err := Touch(s, id, kinds(len(steps)+1)...)
		if err != nil {
			return nil, err
		}
		steps = append(steps, at)
		for at.Kid = len(at.Page.Kids) - 1; ; at.Kid-- {
			if at.Kid < 0 {
				break pages // a leaf: a branch's first key is above none
			}
			if at.Page.Keys[at.Kid] <= key {
				break
			}
		}
		id = at.Page.Kids[at.Kid]
	}
	return steps, nil
}

// kinds gives the kinds of the pages that a tree has so deep.
func kinds(depth int) []int {
	if depth > deepest {
		return nil
	}
	return []int{api.PLeaf, api.PBranch}
}

// Touch makes page id dirty. One of another kind than these it refuses ahead of that; the store's errors come first, as they do where a tree is listed.
func Touch(s *store.Store, id int, kinds ...int) (*Step, error) {
	p, err := s.Read(id)
	if err != nil {
		return nil, err
	}
	if !slices.Contains(kinds, p.Kind) {
		return nil, api.ErrCorrupt
	}
	n, err := s.Touch(id)
	if err != nil {
		return nil, err
	}
	return &Step{ID: n, Page: p}, nil
}

// Size tells how many items a leaf, or how many children a branch has.
func Size(p api.Page) int { return len(p.Items) + len(p.Kids) }

// Split gives the halves of a page, the first one rounded up, and the key that parts them: a branch's first one is none of its own, the one that stood there goes up.
func Split(p api.Page) (low, high api.Page, key string) {
	half := (Size(p) + 1) / 2
	low.Kind, high.Kind = p.Kind, p.Kind
	if p.Kind == api.PLeaf {
		low.Items, high.Items = p.Items[:half], p.Items[half:]
		return low, high, high.Items[0].Key
	}
	low.Keys, high.Keys = p.Keys[:half], p.Keys[half:]
	low.Kids, high.Kids = p.Kids[:half], p.Kids[half:]
	key, high.Keys[0] = high.Keys[0], ""
	return low, high, key
}
