package cut

import (
	"slices"

	"copyhold/api"
	"copyhold/store"
	"copyhold/way"
)

// pair: two pages side by side, and the branch above them, of which the right one is child number at.
type pair struct {
	above       *way.Step
	at          int
	left, right *way.Step
}

// beside gives the page with the one ahead of it, which it makes dirty; a first child with the one behind it.
func beside(s *store.Store, above, at *way.Step) (pair, error) {
	kids := above.Page.Kids
	if above.Kid == 0 {
		right, err := way.Touch(s, kids[1], at.Page.Kind)
		return pair{above: above, at: 1, left: at, right: right}, err
	}
	left, err := way.Touch(s, kids[above.Kid-1], at.Page.Kind)
	return pair{above: above, at: above.Kid, left: left, right: at}, err
}

// join puts all of both on the left page, if it fits there, and the right one goes; else each has a half.
func (p pair) join(s *store.Store) error {
	up, all := &p.above.Page, p.all()
	up.Kids[p.at-1], up.Kids[p.at] = p.left.ID, p.right.ID
	if way.Size(all) <= api.Fan {
		up.Keys = slices.Delete(up.Keys, p.at, p.at+1)
		up.Kids = slices.Delete(up.Kids, p.at, p.at+1)
		s.Drop(p.right.ID)
		return set(s, p.left.ID, all)
	}
	low, high, key := way.Split(all)
	up.Keys[p.at] = key
	if err := set(s, p.left.ID, low); err != nil {
		return err
	}
	return set(s, p.right.ID, high)
}

// all gives a page of all that both have, in order; a branch's first key is none of its own: for the right one's stands the one that parts them.
func (p pair) all() api.Page {
	left, right := p.left.Page, p.right.Page
	if right.Kind == api.PBranch {
		right.Keys[0] = p.above.Page.Keys[p.at]
	}
	return api.Page{
		Kind:  left.Kind,
		Items: slices.Concat(left.Items, right.Items),
		Keys:  slices.Concat(left.Keys, right.Keys),
		Kids:  slices.Concat(left.Kids, right.Kids),
	}
}
