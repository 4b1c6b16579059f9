package page_test

import (
	"errors"
	"math/rand"
	"slices"
	"strings"
	"testing"

	"copyhold/api"
	"copyhold/pack"
	"copyhold/page"
)

// put gives numbers and texts one behind the other, as pack writes them.
func put(parts ...any) string {
	s := ""
	for _, x := range parts {
		switch x := x.(type) {
		case int:
			s += pack.Num(uint64(x))
		case uint64:
			s += pack.Num(x)
		case string:
			s += pack.Text(x)
		}
	}
	return s
}

func summed(body string) string { return pack.Num(pack.Sum(body)) + body }

// P2.2: what Bytes writes, kind by kind; Read turns it round.
func TestBytes(t *testing.T) {
	for _, c := range []struct {
		what string
		p    api.Page
		want string
	}{
		{"a value", leaf(val("k", "v")), put(1, 1, "k", 1, "v")},
		{"an empty value", leaf(val("k", "")), put(1, 1, "k", 1, "")},
		{"a long value", leaf(long(399, 1000)), put(1, 1, "k", 2, 399, 1000)},
		{"many values", leaf(many("a", "b")), put(1, 1, "k", 3, 2, "a", "b", 0)},
		{"many values on a page", leaf(manyOn(7)), put(1, 1, "k", 3, 0, 7)},
		{"a database", leaf(root(5, 1000000, 1)), put(1, 1, "k", 4, 5, 1000000, 1)},
		{"all kinds", leaf(
			api.Item{Key: "a", Kind: api.IRoot, Root: api.Root{Page: 9, Count: 3}},
			api.Item{Key: "b", Kind: api.IDup, Vals: texts(3)},
			api.Item{Key: "c", Kind: api.ILong, Run: 7, Len: 300},
			val("d", "x")), put(1, 4, "a", 4, 9, 3, 0, "b", 3, 3, "a", "b", "c", 0, "c", 2, 7, 300, "d", 1, "x")},
		{"a branch", branch([]string{"", "b", "ccc"}, 8, 399, 2), put(2, 3, "", 8, "b", 399, "ccc", 2)},
		{"a piece of a long value", over("text"), put(3, "text")},
		{"a page of values", dup("a", "b", "bb", "c"), put(4, 4, "a", "b", "bb", "c")},
		{"no free pages", free(0), put(5, 0, 0)},
		{"free pages", free(12, freed(0, 2), freed(1<<63, 3, 4)), put(5, 2, 0, 1, 2, uint64(1<<63), 2, 3, 4, 12)},
		{"a meta", meta(api.Meta{Txn: 1<<64 - 1, Main: api.Root{Page: 3, Count: 4, Flags: 1}, Free: 5, Last: 6}), put(6, uint64(1<<64-1), 3, 4, 1, 5, 6)},
	} {
		if got := page.Bytes(c.p); got != summed(c.want) {
			t.Errorf("%s: %q, not %q", c.what, got, summed(c.want))
		}
		wantPage(t, c.what, summed(c.want), c.p)
	}
}

// P2.2: Read of what Bytes wrote.
func TestReadTurnsBytesRound(t *testing.T) {
	for _, s := range pages() {
		wantPage(t, s.what, page.Bytes(s.p), s.p)
	}
}

func wantPage(t *testing.T, what, s string, want api.Page) {
	t.Helper()
	got, err := page.Read(s)
	if err != nil || !page.Same(got, want) {
		t.Errorf("%s: read as %v, %v", what, got, err)
	}
}

func wantCorrupt(t *testing.T, what, s string) {
	t.Helper()
	got, err := page.Read(s)
	if !errors.Is(err, api.ErrCorrupt) || !page.Same(got, api.Page{}) {
		t.Errorf("%s: read as %v, %v", what, got, err)
	}
}

// P2.3: a byte changed, one less, one more, here and there.
func TestChangedBytesAreSeen(t *testing.T) {
	for _, s := range pages() {
		good := page.Bytes(s.p)
		for i := range len(good) {
			for _, flip := range []byte{1, 2, 4, 8, 16, 32, 64, 128, 255} {
				b := []byte(good)
				b[i] ^= flip
				wantCorrupt(t, s.what+", a byte changed", string(b))
			}
			wantCorrupt(t, s.what+", its front", good[:i])
			wantCorrupt(t, s.what+", one byte less", good[:i]+good[i+1:])
			wantCorrupt(t, s.what+", one byte more", good[:i]+"\x07"+good[i:])
		}
		for _, more := range []string{"\x00", "x", good} {
			wantCorrupt(t, s.what+", and more", good+more)
		}
		wantCorrupt(t, s.what+", something ahead", "\x00"+good)
	}
}

// P2.2: an empty text, and others that are none of Bytes'.
func TestReadOfNoPage(t *testing.T) {
	for _, s := range []string{"", "\x00", "page", pack.Num(5381), pack.Num(0) + pack.Num(0), strings.Repeat("\x00", 100), strings.Repeat("\xff", 1000)} {
		wantCorrupt(t, "no page", s)
	}
}

// P2.2, P2.3: the sum is right, the page isn't.
func TestReadOfAWrongPageWithARightSum(t *testing.T) {
	huge := uint64(1) << 40
	for _, c := range []struct{ what, body string }{
		{"nothing", ""},
		{"half a kind", "\x01\x00"},
		{"no kind", put(0)},
		{"kind above", put(7)},
		{"kind far above", put(uint64(1<<32+3)) + put("x")},
		{"leaf of nothing", put(1, 0)},
		{"leaf without its items", put(1, 2)},
		{"leaf of far too many", put(1, huge)},
		{"leaf of five", put(1, 5, "a", 1, "", "b", 1, "", "c", 1, "", "d", 1, "", "e", 1, "")},
		{"leaf of four that says five", put(1, 5, "a", 1, "", "b", 1, "", "c", 1, "", "d", 1, "")},
		{"leaf of two that says one", put(1, 1, "a", 1, "", "b", 1, "")},
		{"leaf that falls", put(1, 2, "b", 1, "", "a", 1, "")},
		{"item of no kind", put(1, 1, "a", 0)},
		{"item of kind 5", put(1, 1, "a", 5)},
		{"no key", put(1, 1, "", 1, "v")},
		{"long key", put(1, 1, "123456789", 1, "v")},
		{"a value too long", put(1, 1, "a", 1, strings.Repeat("v", 13))},
		{"long that is short", put(1, 1, "a", 2, 2, 12)},
		{"long from far above on", put(1, 1, "a", 2, uint64(1<<32+2), 13)},
		{"long from below on", put(1, 1, "a", 2, uint64(1<<64-2), 13)},
		{"no values, no page", put(1, 1, "a", 3, 0, 0)},
		{"values and a page", put(1, 1, "a", 3, 1, "v", 2)},
		{"four values", put(1, 1, "a", 3, 4, "a", "b", "c", "d", 0)},
		{"far too many values", put(1, 1, "a", 3, huge, "a", "b", "c", 0)},
		{"database on a meta", put(1, 1, "a", 4, 1, 0, 0)},
		{"branch of one", put(2, 1, "", 2)},
		{"branch of far too many", put(2, huge, "", 2)},
		{"branch of five", put(2, 5, "", 2, "b", 3, "c", 4, "d", 5, "e", 6)},
		{"branch that begins with a key", put(2, 2, "a", 2, "b", 3)},
		{"over of nothing", put(3, "")},
		{"over of too much", put(3, strings.Repeat("o", 101))},
		{"over of two", put(3, "a", "b")},
		{"over of a byte more", put(3, "a") + "b"},
		{"three values on a page", put(4, 3, "a", "b", "c")},
		{"values on a page that lack", put(4, 4, "a")},
		{"far too many values on a page", put(4, huge, "a")},
		{"13 values on a page", put(4, 13) + put("a", "b", "c", "d", "e", "f", "g", "h", "i", "j", "k", "l", "m")},
		{"free without next", put(5, 0)},
		{"free of nothing", put(5, 1, 7, 0, 0)},
		{"next is a meta", put(5, 0, 1)},
		{"free of far too many", put(5, huge, 7, 1, 2, 0)},
		{"free of far too many numbers", put(5, 1, 7, huge, 2, 0)},
		{"free of 21 that says so", put(5, 21) + strings.Repeat(put(3, 1, 5), 21) + put(0)},
		{"free of 21 numbers in two", put(5, 2, 3, 1, 5, 3, 20) + put(2, 3, 4, 5, 6, 7, 8, 9, 10, 11, 12, 13, 14, 15, 16, 17, 18, 19, 20, 21) + put(0)},
		{"free that falls", put(5, 1, 7, 2, 3, 2, 0)},
		{"versions that fall", put(5, 2, 7, 1, 2, 6, 1, 3, 0)},
		{"meta, last below", put(6, 0, 0, 0, 0, 0, 1)},
		{"meta, last above", put(6, 0, 0, 0, 0, 0, 401)},
		{"meta without last", put(6, 0, 0, 0, 0, 0)},
		{"meta with more", put(6, 0, 0, 0, 0, 0, 2, 0)},
	} {
		wantCorrupt(t, c.what, summed(c.body))
	}
}

// P2.3: whatever the bytes are, Read comes back; what it takes for a page has just these bytes.
func TestReadOfAnyBytes(t *testing.T) {
	r := rand.New(rand.NewSource(2))
	for _, s := range pages() {
		for range 300 {
			body := []byte(page.Bytes(s.p)[8:])
			for range 1 + r.Intn(3) {
				body[r.Intn(len(body))] = byte(r.Intn(256))
			}
			text := summed(string(body[:len(body)-r.Intn(2)]))
			p, err := page.Read(text)
			if err == nil && (!page.Is(p) || page.Bytes(p) != text) {
				t.Errorf("%s, changed: %q read as %v", s.what, text, p)
			}
			if err != nil {
				wantCorrupt(t, s.what+", changed", text)
			}
		}
	}
}

// What is handed in isn't changed, behind a list neither; what is answered is new each time.
func TestListsAreNotShared(t *testing.T) {
	vals := append(make([]string, 0, 9), "a", "b", "c", "d")
	behind := vals[:9]
	behind[4] = "behind"
	p := api.Page{Kind: api.PDup, Vals: vals}
	s := page.Bytes(p)
	if !page.Is(p) || !slices.Equal(behind[:5], []string{"a", "b", "c", "d", "behind"}) {
		t.Errorf("changed: %q", behind)
	}
	first, _ := page.Read(s)
	second, _ := page.Read(s)
	first.Vals[0] = "z"
	_ = append(first.Vals[:1], "y")
	if !page.Same(second, p) {
		t.Errorf("two answers share: %v", second)
	}
	list := page.Bytes(free(0, freed(1, 2), freed(1, 3), freed(1, 4)))
	third, _ := page.Read(list)
	_ = append(third.Free[0].IDs, 9, 9, 9, 9)
	if page.Bytes(third) != list {
		t.Errorf("two lists of one answer share: %v", third)
	}
}
