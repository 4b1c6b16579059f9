package meta_test

import (
	"errors"
	"math"
	"strings"
	"testing"

	"copyhold/api"
	"copyhold/meta"
	"copyhold/pack"
	"copyhold/page"
)

// of gives a meta of that version, with all its parts, which tell it from its neighbours.
func of(txn uint64) api.Meta {
	n := int(txn % 100)
	return api.Meta{Txn: txn, Main: api.Root{Page: 2 + n, Count: 3 * n, Flags: n / 2 % 2}, Free: 103 + n, Last: 204 + n}
}

func at(txn uint64) string { return meta.Bytes(of(txn)) }

// numbers gives them one behind the other, their sum ahead, as a page has them.
func numbers(list ...uint64) string {
	s := ""
	for _, n := range list {
		s += pack.Num(n)
	}
	return pack.Num(pack.Sum(s)) + s
}

func wantMeta(t *testing.T, what, a, b string, want api.Meta) {
	t.Helper()
	if got, err := meta.Choose(a, b); err != nil || got != want {
		t.Errorf("%s: %v, %v, not %v", what, got, err, want)
	}
}

func wantCorrupt(t *testing.T, what, a, b string) {
	t.Helper()
	if got, err := meta.Choose(a, b); !errors.Is(err, api.ErrCorrupt) || got != (api.Meta{}) {
		t.Errorf("%s: %v, %v, not corrupt", what, got, err)
	}
}

// P3.1: Fresh(i), i held from 0 to 1.
func TestFresh(t *testing.T) {
	for _, c := range []struct {
		i   int
		txn uint64
	}{{0, 0}, {1, 1}, {-1, 0}, {-2, 0}, {2, 1}, {3, 1}, {math.MinInt, 0}, {math.MaxInt, 1}} {
		if got := meta.Fresh(c.i); got != (api.Meta{Txn: c.txn, Last: 2}) {
			t.Errorf("Fresh(%d): %v", c.i, got)
		}
	}
}

// P3.1: Place(txn), of even and of odd ones.
func TestPlace(t *testing.T) {
	for _, c := range []struct {
		txn  uint64
		want int
	}{{0, 0}, {1, 1}, {2, 0}, {3, 1}, {254, 0}, {255, 1}, {1<<32 - 1, 1}, {1 << 32, 0}, {math.MaxInt64, 1}, {1 << 63, 0}, {1<<63 + 1, 1}, {math.MaxUint64 - 1, 0}, {math.MaxUint64, 1}} {
		if got := meta.Place(c.txn); got != c.want {
			t.Errorf("Place(%d): %d, not %d", c.txn, got, c.want)
		}
	}
}

// P3.1: Bytes(m), part by part, and that page's Read turns it round.
func TestBytes(t *testing.T) {
	for _, c := range []struct {
		m    api.Meta
		want string
	}{
		{meta.Fresh(0), numbers(6, 0, 0, 0, 0, 0, 2)},
		{meta.Fresh(1), numbers(6, 1, 0, 0, 0, 0, 2)},
		{api.Meta{Txn: 5, Main: api.Root{Page: 7, Count: 3, Flags: api.FDup}, Free: 4, Last: 9}, numbers(6, 5, 7, 3, 1, 4, 9)},
		{api.Meta{Txn: math.MaxUint64, Main: api.Root{Page: 399, Count: 1000000}, Free: 399, Last: 400}, numbers(6, math.MaxUint64, 399, 1000000, 0, 399, 400)},
	} {
		got := meta.Bytes(c.m)
		if got != c.want || got != page.Bytes(api.Page{Kind: api.PMeta, Meta: c.m}) {
			t.Errorf("Bytes(%v): %q, not %q", c.m, got, c.want)
		}
		if p, err := page.Read(got); err != nil || !page.Same(p, api.Page{Kind: api.PMeta, Meta: c.m}) {
			t.Errorf("%v: read as %v, %v", c.m, p, err)
		}
	}
}

// noMetas: of each part what is one past its limits.
func noMetas() []api.Meta {
	list := []api.Meta{{}, {Txn: 1}}
	for _, change := range []func(*api.Meta){
		func(m *api.Meta) { m.Main.Page = -1 },
		func(m *api.Meta) { m.Main.Page = 1 },
		func(m *api.Meta) { m.Main.Page = 400 },
		func(m *api.Meta) { m.Main.Count = -1 },
		func(m *api.Meta) { m.Main.Count = 1000001 },
		func(m *api.Meta) { m.Main.Flags = -1 },
		func(m *api.Meta) { m.Main.Flags = 2 },
		func(m *api.Meta) { m.Free = -1 },
		func(m *api.Meta) { m.Free = 1 },
		func(m *api.Meta) { m.Free = 400 },
		func(m *api.Meta) { m.Last = -1 },
		func(m *api.Meta) { m.Last = 0 },
		func(m *api.Meta) { m.Last = 1 },
		func(m *api.Meta) { m.Last = 401 },
		func(m *api.Meta) { m.Last = math.MaxInt },
	} {
		m := of(12)
		change(&m)
		list = append(list, m)
	}
	return list
}

// P3.1: Bytes of metas that aren't Is; their numbers with a right sum aren't chosen either.
func TestNoMetas(t *testing.T) {
	for _, m := range noMetas() {
		if got := meta.Bytes(m); got != "" {
			t.Errorf("Bytes(%v): %q", m, got)
		}
		s := numbers(6, m.Txn, uint64(m.Main.Page), uint64(m.Main.Count), uint64(m.Main.Flags), uint64(m.Free), uint64(m.Last))
		wantMeta(t, "no meta on page 0", s, at(11), of(11))
		wantMeta(t, "no meta on page 1", at(10), s, of(10))
		wantCorrupt(t, "no meta on either page", s, s)
	}
}

// P3.1: of both Fresh the second one.
func TestChooseOfANewFile(t *testing.T) {
	first, second := meta.Bytes(meta.Fresh(0)), meta.Bytes(meta.Fresh(1))
	wantMeta(t, "both", first, second, meta.Fresh(1))
	wantMeta(t, "the first alone", first, "", meta.Fresh(0))
	wantMeta(t, "the second alone", "", second, meta.Fresh(1))
	wantCorrupt(t, "turned round", second, first)
}

// P3.1: of two right ones the later one, whichever page it lies on, however far apart they are.
func TestChooseTakesTheLater(t *testing.T) {
	evens := []uint64{0, 2, 4, 10, 256, 1 << 32, 1<<63 - 2, 1 << 63, math.MaxUint64 - 1}
	odds := []uint64{1, 3, 5, 11, 255, 257, 1<<32 + 1, math.MaxInt64, 1<<63 + 1, math.MaxUint64}
	for _, even := range evens {
		for _, odd := range odds {
			wantMeta(t, "both right", at(even), at(odd), of(max(even, odd)))
			wantCorrupt(t, "each in the other one's place", at(odd), at(even))
		}
	}
}

// P3.1: a meta in the other one's place doesn't count, though it is the later one.
func TestChooseLooksAtThePlace(t *testing.T) {
	for _, strayed := range []uint64{1, 3, 99, math.MaxUint64} {
		wantMeta(t, "an odd one on page 0", at(strayed), at(7), of(7))
		wantCorrupt(t, "an odd one on page 0, none on page 1", at(strayed), "")
	}
	for _, strayed := range []uint64{0, 2, 98, math.MaxUint64 - 1} {
		wantMeta(t, "an even one on page 1", at(8), at(strayed), of(8))
		wantCorrupt(t, "an even one on page 1, none on page 0", "", at(strayed))
	}
	wantMeta(t, "the same one on both pages, even", at(6), at(6), of(6))
	wantMeta(t, "the same one on both pages, odd", at(9), at(9), of(9))
}

// P3.1: pages that are right, but of another kind.
func TestChooseTakesMetasOnly(t *testing.T) {
	for _, p := range []api.Page{
		{Kind: api.PLeaf, Items: []api.Item{{Key: "k", Kind: api.IVal, Val: "v"}}},
		{Kind: api.PBranch, Keys: []string{"", "k"}, Kids: []int{2, 3}},
		{Kind: api.POver, Text: "text"},
		{Kind: api.PDup, Vals: []string{"a", "b", "c", "d"}},
		{Kind: api.PFree},
		{Kind: api.PFree, Free: []api.Free{{Txn: 4, IDs: []int{2, 3}}}, Next: 5},
	} {
		s := page.Bytes(p)
		if s == "" {
			t.Fatalf("kind %d: not a page", p.Kind)
		}
		wantMeta(t, "another kind on page 0", s, at(1), of(1))
		wantMeta(t, "another kind on page 1", at(0), s, of(0))
		wantCorrupt(t, "another kind on both pages", s, s)
		wantCorrupt(t, "another kind and nothing", s, "")
	}
}

// spoilt gives s with a byte changed, one less, one more, at each place, and texts that are no page.
func spoilt(s string) []string {
	list := []string{"", "\x00", "meta", s + s, s + "\x00", strings.Repeat("\x00", len(s)), strings.Repeat("\xff", len(s))}
	for i := range len(s) {
		for _, flip := range []byte{1, 2, 4, 8, 16, 32, 64, 128, 255} {
			b := []byte(s)
			b[i] ^= flip
			list = append(list, string(b))
		}
		list = append(list, s[:i], s[i+1:], s[:i]+s[i+1:], s[:i]+"\x07"+s[i:])
	}
	return list
}

// P3.2: of a later one that is spoilt nothing counts; of two none: corrupt.
func TestChooseOfSpoiltBytes(t *testing.T) {
	for _, s := range spoilt(at(4)) {
		wantMeta(t, "page 0 spoilt, the later one", s, at(3), of(3))
		wantMeta(t, "page 0 spoilt, the earlier one", s, at(5), of(5))
		wantCorrupt(t, "page 0 spoilt, page 1 empty", s, "")
		wantCorrupt(t, "page 0 spoilt, another one's meta on page 1", s, at(4))
	}
	for _, s := range spoilt(at(5)) {
		wantMeta(t, "page 1 spoilt, the later one", at(4), s, of(4))
		wantMeta(t, "page 1 spoilt, the earlier one", at(6), s, of(6))
		wantCorrupt(t, "page 1 spoilt, page 0 empty", "", s)
		wantCorrupt(t, "both spoilt", s, s)
	}
	wantCorrupt(t, "nothing", "", "")
}

// P3.2: version by version, each written a byte at a time in its place: the one ahead of it counts until it is whole.
func TestTheLastWholeOneCounts(t *testing.T) {
	f := [2]string{meta.Bytes(meta.Fresh(0)), meta.Bytes(meta.Fresh(1))}
	last := meta.Fresh(1)
	for txn := uint64(2); txn < 12; txn++ {
		place := meta.Place(txn)
		old, s := f[place], at(txn)
		for size := 1; size < len(s); size++ {
			f[place] = s[:size] + old[size:]
			if f[place] != old && f[place] != s {
				wantMeta(t, "half written", f[0], f[1], last)
			}
		}
		f[place] = s
		last = of(txn)
		wantMeta(t, "written", f[0], f[1], last)
	}
}

// P3.2: the same bytes, the same answer, whenever and by whomever it is asked.
func TestChooseIsAlwaysTheSame(t *testing.T) {
	done := make(chan bool)
	for range 8 {
		go func() {
			for range 200 {
				wantMeta(t, "page 0 later", at(8), at(7), of(8))
				wantMeta(t, "page 1 later", at(8), at(9), of(9))
				wantCorrupt(t, "none", at(9), at(8))
			}
			done <- true
		}()
	}
	for range 8 {
		<-done
	}
}
