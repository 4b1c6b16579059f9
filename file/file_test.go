package file_test

import (
	"errors"
	"math"
	"math/rand/v2"
	"slices"
	"strconv"
	"strings"
	"testing"

	"copyhold/api"
	"copyhold/file"
)

func write(t *testing.T, f *file.File, i int, s string) {
	t.Helper()
	if err := f.Write(i, s); err != nil {
		t.Fatalf("Write(%d, %q): %v", i, s, err)
	}
}

// want holds a file against its pages and the numbers of the loose ones; around its pages it must have none.
func want(t *testing.T, what string, f *file.File, pages []string, loose ...int) {
	t.Helper()
	got := make([]string, f.Len())
	for i := range got {
		got[i] = f.Read(i)
	}
	if !slices.Equal(got, pages) {
		t.Errorf("%s: pages %q, not %q", what, got, pages)
	}
	if !slices.Equal(f.Loose(), loose) {
		t.Errorf("%s: loose %v, not %v", what, f.Loose(), loose)
	}
	for _, i := range []int{math.MinInt, -400, -1, f.Len(), f.Len() + 1, 400, 401, math.MaxInt} {
		if s := f.Read(i); s != "" {
			t.Errorf("%s: page %d of %d: %q", what, i, f.Len(), s)
		}
	}
}

// numbered gives n pages, each of which tells its number.
func numbered(n int) []string {
	list := make([]string, n)
	for i := range list {
		list[i] = "page " + strconv.Itoa(i)
	}
	return list
}

func upTo(from, end int) []int {
	var list []int
	for i := from; i < end; i++ {
		list = append(list, i)
	}
	return list
}

// P4.1: New of none, of some, of as many as may be, of more.
func TestNew(t *testing.T) {
	want(t, "nil", file.New(nil), nil)
	want(t, "none", file.New([]string{}), nil)
	want(t, "an empty one", file.New([]string{""}), []string{""})
	want(t, "empty ones at the end", file.New([]string{"a", "", ""}), []string{"a", "", ""})
	for _, n := range []int{1, 2, 3, 17, 399, 400, 401, 402, 1000} {
		want(t, strconv.Itoa(n), file.New(numbered(n)), numbered(min(n, api.MaxPages)))
	}
}

// P4.1: what New made is synced: a loss of power takes none of it but empty pages at the end.
func TestNewIsSynced(t *testing.T) {
	for _, n := range []int{0, 1, 5, 400, 450} {
		f := file.New(numbered(n))
		f.Power(nil)
		want(t, "no power", f, numbered(min(n, 400)))
		write(t, f, 0, "x")
		f.Power(nil)
		want(t, "a write, no power", f, numbered(min(n, 400)))
	}
}

// Rule 3: the list that is handed in isn't kept, nor changed, nor its spare room.
func TestNewKeepsNoList(t *testing.T) {
	room := []string{"a", "b", "spare", "room"}
	f := file.New(room[:2])
	room[0], room[1] = "x", "y"
	want(t, "the list is changed", f, []string{"a", "b"})
	write(t, f, 0, "A")
	write(t, f, 3, "D")
	f.Sync()
	if !slices.Equal(room, []string{"x", "y", "spare", "room"}) {
		t.Errorf("changed: %q", room)
	}
	want(t, "its own", f, []string{"A", "b", "", "D"})
}

// P4.1: Write of pages that are there: once, again, the same bytes, none.
func TestWriteOver(t *testing.T) {
	f := file.New([]string{"a", "b", "c"})
	write(t, f, 1, "B")
	want(t, "one", f, []string{"a", "B", "c"}, 1)
	write(t, f, 1, "BB")
	want(t, "again", f, []string{"a", "BB", "c"}, 1)
	write(t, f, 0, "a")
	want(t, "the same bytes", f, []string{"a", "BB", "c"}, 0, 1)
	write(t, f, 2, "")
	want(t, "none", f, []string{"a", "BB", ""}, 0, 1, 2)
	write(t, f, 1, "b")
	want(t, "as it was", f, []string{"a", "b", ""}, 0, 1, 2)
}

// P4.1: Write behind the end: pages between are empty, and loose too.
func TestWriteBehindTheEnd(t *testing.T) {
	f := file.New([]string{"a"})
	write(t, f, 1, "b")
	want(t, "the next one", f, []string{"a", "b"}, 1)
	write(t, f, 5, "f")
	want(t, "with some between", f, []string{"a", "b", "", "", "", "f"}, 1, 2, 3, 4, 5)
	write(t, f, 3, "d")
	want(t, "one between", f, []string{"a", "b", "", "d", "", "f"}, 1, 2, 3, 4, 5)
	write(t, f, 7, "")
	want(t, "an empty one", f, []string{"a", "b", "", "d", "", "f", "", ""}, 1, 2, 3, 4, 5, 6, 7)
	g := file.New(nil)
	write(t, g, 0, "a")
	want(t, "the first one", g, []string{"a"}, 0)
}

// P4.1: Write at the last page that may be, and one past it.
func TestWriteAtTheLastPage(t *testing.T) {
	f := file.New(nil)
	write(t, f, 399, "last")
	pages := make([]string, 400)
	pages[399] = "last"
	want(t, "399", f, pages, upTo(0, 400)...)
	if err := f.Write(400, "past"); !errors.Is(err, api.ErrMap) {
		t.Errorf("400: %v", err)
	}
	want(t, "400", f, pages, upTo(0, 400)...)
	f.Sync()
	want(t, "synced", f, pages)
	write(t, f, 399, "again")
	pages[399] = "again"
	want(t, "written again", f, pages, 399)
}

// P4.1: numbers that may not be: ErrMap, and nothing is changed.
func TestWriteOfNoPage(t *testing.T) {
	for _, n := range []int{0, 1, 3, 400} {
		f := file.New(numbered(n))
		for _, i := range []int{-1, -2, -400, math.MinInt, 400, 401, 1000, math.MaxInt} {
			err := f.Write(i, "x")
			if code := api.OK; !errors.Is(err, api.ErrMap) || !errors.As(err, &code) || code != 14 {
				t.Errorf("Write(%d) of %d pages: %v", i, n, err)
			}
		}
		want(t, "refused", f, numbered(n))
		f.Power([]bool{true, true})
		want(t, "refused, no power", f, numbered(n))
	}
}

// P4.1: Sync with nothing loose, with some, and what a loss of power goes back to from then on.
func TestSync(t *testing.T) {
	f := file.New(nil)
	f.Sync()
	want(t, "nothing", f, nil)
	write(t, f, 2, "c")
	f.Sync()
	want(t, "some between", f, []string{"", "", "c"})
	f.Sync()
	want(t, "twice", f, []string{"", "", "c"})
	write(t, f, 2, "C")
	write(t, f, 0, "a")
	f.Power(nil)
	want(t, "no power", f, []string{"", "", "c"})
	write(t, f, 2, "C")
	f.Sync()
	write(t, f, 2, "CC")
	write(t, f, 2, "CCC")
	f.Power(nil)
	want(t, "as it was synced last", f, []string{"", "", "C"})
}

// P4.1: Loose is rising whatever the order of the writes, and new memory.
func TestLoose(t *testing.T) {
	f := file.New(numbered(6))
	for _, i := range []int{5, 0, 3, 5, 2, 0} {
		write(t, f, i, "x")
	}
	a := f.Loose()
	b := f.Loose()
	if !slices.Equal(a, []int{0, 2, 3, 5}) || !slices.IsSorted(b) {
		t.Errorf("loose: %v, %v", a, b)
	}
	a[0] = 99
	_ = append(a[:1], 98, 97, 96)
	if !slices.Equal(b, []int{0, 2, 3, 5}) || !slices.Equal(f.Loose(), b) {
		t.Errorf("touched by what was done with another answer: %v, %v", b, f.Loose())
	}
	f.Sync()
	if !slices.Equal(b, []int{0, 2, 3, 5}) || len(f.Loose()) != 0 {
		t.Errorf("synced: %v, %v", b, f.Loose())
	}
}

// P4.1: Power with some kept, none, all, keep shorter and longer than Loose; the i-th is that of Loose, not page i.
func TestPower(t *testing.T) {
	const F, T = false, true
	for _, c := range []struct {
		keep  []bool
		pages []string
	}{
		{nil, []string{"a", "b", "c", "d"}},
		{[]bool{}, []string{"a", "b", "c", "d"}},
		{[]bool{F, F, F, F}, []string{"a", "b", "c", "d"}},
		{[]bool{T, T, T, T}, []string{"a", "B", "", "d", "", "f"}},
		{[]bool{T}, []string{"a", "B", "c", "d"}},
		{[]bool{F, T}, []string{"a", "b", "", "d"}},
		{[]bool{T, T}, []string{"a", "B", "", "d"}},
		{[]bool{F, F, T}, []string{"a", "b", "c", "d"}},
		{[]bool{T, T, T}, []string{"a", "B", "", "d"}},
		{[]bool{F, F, F, T}, []string{"a", "b", "c", "d", "", "f"}},
		{[]bool{F, F, T, T}, []string{"a", "b", "c", "d", "", "f"}},
		{[]bool{F, T, F, T}, []string{"a", "b", "", "d", "", "f"}},
		{[]bool{T, F, F, T, F, F, F}, []string{"a", "B", "c", "d", "", "f"}},
		{[]bool{T, F, F, T, T, T, T}, []string{"a", "B", "c", "d", "", "f"}},
		{[]bool{F, F, F, F, T, T, T}, []string{"a", "b", "c", "d"}},
		{slices.Repeat([]bool{T}, 1000), []string{"a", "B", "", "d", "", "f"}},
	} {
		f := file.New([]string{"a", "b", "c", "d"})
		write(t, f, 5, "f")
		write(t, f, 2, "")
		write(t, f, 1, "B")
		want(t, "written", f, []string{"a", "B", "", "d", "", "f"}, 1, 2, 4, 5)
		given := slices.Clone(c.keep)
		f.Power(given)
		want(t, "no power", f, c.pages)
		if !slices.Equal(given, c.keep) {
			t.Errorf("keep is changed: %v, not %v", given, c.keep)
		}
		write(t, f, 0, "lost")
		f.Power(nil)
		want(t, "what stayed is synced", f, c.pages)
	}
}

// P4.1: Power where nothing is loose takes pages "" at the end, whatever keep says, and no others.
func TestPowerWithNothingLoose(t *testing.T) {
	for _, c := range []struct{ pages, want []string }{
		{nil, nil},
		{[]string{""}, nil},
		{[]string{"", "", ""}, nil},
		{[]string{"a"}, []string{"a"}},
		{[]string{"a", "b"}, []string{"a", "b"}},
		{[]string{"a", "", ""}, []string{"a"}},
		{[]string{"", "b", ""}, []string{"", "b"}},
		{[]string{"", "", "c"}, []string{"", "", "c"}},
		{make([]string, 400), nil},
		{[]string{"\x00", "\x00"}, []string{"\x00", "\x00"}},
	} {
		for _, keep := range [][]bool{nil, {true, true, true, true}, {false}} {
			f := file.New(c.pages)
			f.Power(keep)
			want(t, "once", f, c.want)
			f.Power(keep)
			want(t, "twice", f, c.want)
		}
	}
}

// P4.1: pages "" at the end go, though they were kept or synced; there is nothing to go back to from then on.
func TestEmptyPagesAtTheEndGo(t *testing.T) {
	f := file.New([]string{"a", "b", "c"})
	write(t, f, 2, "")
	f.Power([]bool{true})
	want(t, "kept", f, []string{"a", "b"})
	write(t, f, 1, "")
	f.Sync()
	want(t, "synced", f, []string{"a", ""})
	f.Power(nil)
	want(t, "synced, no power", f, []string{"a"})
	write(t, f, 2, "C")
	want(t, "grown again", f, []string{"a", "", "C"}, 1, 2)
	f.Power([]bool{true, false})
	want(t, "grown again, no power", f, []string{"a"})
	write(t, f, 3, "")
	f.Power([]bool{true, true, true})
	want(t, "empty ones, all kept", f, []string{"a"})
	write(t, f, 0, "")
	f.Power([]bool{true})
	want(t, "none left", f, nil)
	write(t, f, 1, "b")
	f.Power([]bool{true, true})
	want(t, "from the beginning", f, []string{"", "b"})
}

// The chapter's example: Write, Power of nothing: it isn't there.
func TestExample(t *testing.T) {
	f := file.New(nil)
	write(t, f, 0, "a")
	f.Power(nil)
	want(t, "no power", f, nil)
}

// P4.1: a copy has what is loose and what was synced; each goes its own way.
func TestCopy(t *testing.T) {
	f := file.New([]string{"a", "b"})
	write(t, f, 3, "d")
	write(t, f, 0, "A")
	g, h := f.Copy(), f.Copy()
	for _, c := range []*file.File{f, g, h} {
		want(t, "alike", c, []string{"A", "b", "", "d"}, 0, 2, 3)
	}
	f.Power(nil)
	want(t, "what was copied lost power", f, []string{"a", "b"})
	want(t, "its copy didn't", g, []string{"A", "b", "", "d"}, 0, 2, 3)
	g.Sync()
	want(t, "a copy is synced", g, []string{"A", "b", "", "d"})
	want(t, "the other one isn't", h, []string{"A", "b", "", "d"}, 0, 2, 3)
	h.Power([]bool{true})
	want(t, "a copy lost power", h, []string{"A", "b"})
	write(t, f, 1, "f")
	write(t, g, 1, "g")
	write(t, h, 2, "h")
	want(t, "f", f, []string{"a", "f"}, 1)
	want(t, "g", g, []string{"A", "g", "", "d"}, 1)
	want(t, "h", h, []string{"A", "b", "h"}, 2)
	want(t, "a copy of none", file.New(nil).Copy(), nil)
}

// P4.1: neither of two copies grows into the other one's room, nor into that of what they are copies of.
func TestCopiesGrowApart(t *testing.T) {
	f := file.New(numbered(5))
	for n := 5; n < 70; n++ {
		g, h := f.Copy(), f.Copy()
		write(t, f, n, "f")
		write(t, g, n, "g")
		write(t, h, n, "h")
		if f.Read(n) != "f" || g.Read(n) != "g" || h.Read(n) != "h" {
			t.Fatalf("page %d: %q, %q, %q", n, f.Read(n), g.Read(n), h.Read(n))
		}
	}
}

// P4.2: whichever pages stay, each is whole: all of its bytes as they were written, or all as they were synced.
func TestWholePagesOrNone(t *testing.T) {
	old := []string{"", "old one", "old two", strings.Repeat("o", 5000), "\x00\xff"}
	now := []string{"new", "", "new two, longer", strings.Repeat("n", 3000), "\xff", "", "past the end"}
	for mask := range 1 << len(now) {
		f := file.New(old)
		keep := make([]bool, len(now))
		var pages []string
		for i, s := range now {
			write(t, f, i, s)
			keep[i] = mask>>i&1 == 1
			switch {
			case keep[i]:
				pages = append(pages, s)
			case i < len(old):
				pages = append(pages, old[i])
			default:
				pages = append(pages, "")
			}
		}
		for len(pages) > 0 && pages[len(pages)-1] == "" {
			pages = pages[:len(pages)-1]
		}
		f.Power(keep)
		want(t, "mask "+strconv.Itoa(mask), f, pages)
	}
}

// model: a file by two arrays, told again in the simplest way.
type model struct {
	size        int
	now, synced [api.MaxPages]string
	loose       [api.MaxPages]bool
}

func (m *model) write(i int, s string) {
	for ; m.size <= i; m.size++ {
		m.loose[m.size] = true
	}
	m.now[i], m.loose[i] = s, true
}

func (m *model) sync() { m.synced, m.loose = m.now, [api.MaxPages]bool{} }

func (m *model) list() []int {
	var list []int
	for i, l := range m.loose {
		if l {
			list = append(list, i)
		}
	}
	return list
}

func (m *model) power(keep []bool) {
	for k, i := range m.list() {
		if k >= len(keep) || !keep[k] {
			m.now[i] = m.synced[i]
		}
	}
	for m.size > 0 && m.now[m.size-1] == "" {
		m.size--
	}
	m.sync()
}

// P4.1, P4.2: writes, syncs, losses of power and copies in whatever order; beside each file a model of it.
func TestInWhateverOrder(t *testing.T) {
	r := rand.New(rand.NewPCG(4, 1))
	for range 300 {
		first := numbered(r.IntN(12))
		files, models := []*file.File{file.New(first)}, []*model{{}}
		for i, s := range first {
			models[0].write(i, s)
		}
		models[0].sync()
		for range 60 {
			k := r.IntN(len(files))
			f, m := files[k], models[k]
			switch r.IntN(12) {
			case 0:
				f.Sync()
				m.sync()
			case 1:
				keep := make([]bool, r.IntN(16))
				for i := range keep {
					keep[i] = r.IntN(2) == 0
				}
				f.Power(keep)
				m.power(keep)
			case 2:
				other := *m
				files, models = append(files, f.Copy()), append(models, &other)
			default:
				i, s := r.IntN(18), strings.Repeat("x", r.IntN(3))
				write(t, f, i, s)
				m.write(i, s)
			}
		}
		for k, m := range models {
			want(t, "file "+strconv.Itoa(k), files[k], m.now[:m.size], m.list()...)
		}
		if t.Failed() {
			return
		}
	}
}
