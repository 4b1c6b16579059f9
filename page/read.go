package page

import (
	"copyhold/api"
	"copyhold/pack"
)

// Read gives the page whose bytes s is, all of it.
//
// What is taken from s may be anything; that its bytes are s again tells at once that it is a page, that the sum is right, that nothing lacks and nothing is left.
func Read(s string) (api.Page, error) {
	p := takePage(pack.New(s))
	if s == "" || Bytes(p) != s {
		return api.Page{}, api.ErrCorrupt
	}
	return p, nil
}

func takePage(c *pack.Cut) api.Page {
	c.Num() // the sum: Bytes works it out anew
	p := api.Page{Kind: takeNum(c)}
	switch p.Kind {
	case api.PLeaf:
		for range takeCount(c, api.Fan) {
			p.Items = append(p.Items, takeItem(c))
		}
	case api.PBranch:
		for range takeCount(c, api.Fan) {
			p.Keys = append(p.Keys, c.Text())
			p.Kids = append(p.Kids, takeNum(c))
		}
	case api.POver:
		p.Text = c.Text()
	case api.PDup:
		p.Vals = takeTexts(c, api.MaxDup)
	case api.PFree:
		p.Free = takeFree(c)
		p.Next = takeNum(c)
	case api.PMeta:
		p.Meta = api.Meta{Txn: c.Num(), Main: takeRoot(c), Free: takeNum(c), Last: takeNum(c)}
	}
	return p
}

func takeItem(c *pack.Cut) api.Item {
	it := api.Item{Key: c.Text(), Kind: takeNum(c)}
	switch it.Kind {
	case api.IVal:
		it.Val = c.Text()
	case api.ILong:
		it.Run = takeNum(c)
		it.Len = takeNum(c)
	case api.IDup:
		it.Vals = takeTexts(c, api.InDup)
		it.Dup = takeNum(c)
	case api.IRoot:
		it.Root = takeRoot(c)
	}
	return it
}

func takeRoot(c *pack.Cut) api.Root {
	return api.Root{Page: takeNum(c), Count: takeNum(c), Flags: takeNum(c)}
}

func takeTexts(c *pack.Cut, most int) []string {
	var list []string
	for range takeCount(c, most) {
		list = append(list, c.Text())
	}
	return list
}

// takeFree leaves all the lists at the first number that is one too many for a page: nothing right comes behind it.
func takeFree(c *pack.Cut) []api.Free {
	var free []api.Free
	room := api.FreeIDs
lists:
	for range takeCount(c, api.FreeIDs) {
		f := api.Free{Txn: c.Num()}
		for range c.Num() {
			if room == 0 {
				break lists
			}
			f.IDs = append(f.IDs, takeNum(c))
			room--
		}
		free = append(free, f)
	}
	return free
}

// takeCount takes how many there are, but no more than a page may have: bytes can't make Read go through more than that.
func takeCount(c *pack.Cut, most int) int { return int(min(c.Num(), uint64(most))) }

func takeNum(c *pack.Cut) int { return int(c.Num()) }
