package page

import (
	"strings"

	"copyhold/api"
	"copyhold/pack"
)

// Bytes gives the bytes of a page, the sum of them all ahead; of what isn't a page none.
func Bytes(p api.Page) string {
	if !Is(p) {
		return ""
	}
	body := num(p.Kind) + partBytes(p)
	return pack.Num(pack.Sum(body)) + body
}

func partBytes(p api.Page) string {
	switch p.Kind {
	case api.PLeaf:
		return listBytes(p.Items, itemBytes)
	case api.PBranch:
		return kidBytes(p.Keys, p.Kids)
	case api.POver:
		return pack.Text(p.Text)
	case api.PDup:
		return listBytes(p.Vals, pack.Text)
	case api.PFree:
		return listBytes(p.Free, freeBytes) + num(p.Next)
	default: // Is lets just PMeta through
		m := p.Meta
		return pack.Num(m.Txn) + rootBytes(m.Main) + num(m.Free) + num(m.Last)
	}
}

func itemBytes(it api.Item) string {
	head := pack.Text(it.Key) + num(it.Kind)
	switch it.Kind {
	case api.IVal:
		return head + pack.Text(it.Val)
	case api.ILong:
		return head + num(it.Run) + num(it.Len)
	case api.IDup:
		return head + listBytes(it.Vals, pack.Text) + num(it.Dup)
	default: // Is lets just IRoot through
		return head + rootBytes(it.Root)
	}
}

func rootBytes(r api.Root) string { return num(r.Page) + num(r.Count) + num(r.Flags) }

func freeBytes(f api.Free) string { return pack.Num(f.Txn) + listBytes(f.IDs, num) }

func kidBytes(keys []string, kids []int) string {
	var out strings.Builder
	out.WriteString(num(len(kids)))
	for i, kid := range kids {
		out.WriteString(pack.Text(keys[i]))
		out.WriteString(num(kid))
	}
	return out.String()
}

// listBytes gives how many there are and the bytes of each.
func listBytes[T any](list []T, one func(T) string) string {
	var out strings.Builder
	out.WriteString(num(len(list)))
	for _, x := range list {
		out.WriteString(one(x))
	}
	return out.String()
}

func num(n int) string { return pack.Num(uint64(n)) }
