package tree

import (
	"iter"
	"slices"

	"copyhold/api"
	"copyhold/store"
)

const deepest = 8 // pages from the root to a leaf, these two counted

// spot: a page where it hangs in a tree.
type spot struct {
	id        int
	depth     int    // 1: the root
	low, high string // its keys are to lie from low on, below high ("", which no key is below: however high)
	page      api.Page
}

// spots gives the pages of root's tree, a page ahead of its children, one child with all that hangs on it ahead of the next one, so that who leaves at an error leaves at the first.
//
// It keeps no account of where it was: pages that come back to themselves end at the depth that is too much.
func spots(s *store.Store, root int) iter.Seq2[spot, error] {
	return func(yield func(spot, error) bool) {
		var ahead []spot
		if root != 0 {
			ahead = []spot{{id: root, depth: 1}}
		}
		for len(ahead) > 0 {
			at := ahead[0]
			err := at.read(s)
			if !yield(at, err) {
				return
			}
			ahead = slices.Concat(at.children(), ahead[1:])
		}
	}
}

// read reads the page, and refuses what no tree has there. The store's errors come first, as the chapter names them first.
func (at *spot) read(s *store.Store) error {
	p, err := s.Read(at.id)
	if err != nil {
		return err
	}
	if p.Kind != api.PLeaf && p.Kind != api.PBranch || at.depth > deepest {
		return api.ErrCorrupt
	}
	at.page = p
	return nil
}

// children gives where the children hang, in order; the first one begins, and the last one ends, where their parent does.
func (at spot) children() []spot {
	var list []spot
	low := at.low
	for i, id := range at.page.Kids {
		high := at.high
		if i+1 < len(at.page.Keys) {
			high = at.page.Keys[i+1]
		}
		list = append(list, spot{id: id, depth: at.depth + 1, low: low, high: high})
		low = high
	}
	return list
}

func (at spot) leaf() bool { return at.page.Kind == api.PLeaf }

// above tells how many branches the page hangs under.
func (at spot) above() int { return at.depth - 1 }

func (at spot) keys() []string {
	var list []string
	for _, it := range at.page.Items {
		list = append(list, it.Key)
	}
	return list
}

// full tells whether the page has as many items or children as it must; the root may have fewer.
func (at spot) full() bool {
	return at.depth == 1 || len(at.page.Items)+len(at.page.Kids) >= api.Least
}

// within tells whether a leaf's keys lie between its bounds; since they rise, the first and the last tell it of all.
//
// A branch's own keys need no look: where one lies outside, no key at all is within the bounds of some leaf under it, and none is empty.
func (at spot) within() bool {
	if !at.leaf() {
		return true
	}
	keys := at.keys()
	return keys[0] >= at.low && (at.high == "" || keys[len(keys)-1] < at.high)
}

// on tells whether the page, if it is a leaf, lies as deep as floor says.
func (at spot) on(floor int) bool { return !at.leaf() || at.depth == floor }

// numbers gives the page's own number, and those of the pages that its items have beside the tree, in whatever order they come, maybe one twice.
func (at spot) numbers() []int {
	list := []int{at.id}
	for _, it := range at.page.Items {
		switch it.Kind {
		case api.ILong:
			for i := range (it.Len + api.OverBytes - 1) / api.OverBytes {
				list = append(list, it.Run+i)
			}
		case api.IDup:
			if it.Dup != 0 {
				list = append(list, it.Dup)
			}
		}
	}
	return list
}
