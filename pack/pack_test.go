package pack_test

import (
	"errors"
	"math"
	"strings"
	"testing"

	"copyhold/api"
	"copyhold/pack"
)

// P1.1: Num(n).
func TestNumIsEightBytesLowestFirst(t *testing.T) {
	for _, c := range []struct {
		n    uint64
		want string
	}{
		{0, "\x00\x00\x00\x00\x00\x00\x00\x00"},
		{1, "\x01\x00\x00\x00\x00\x00\x00\x00"},
		{255, "\xff\x00\x00\x00\x00\x00\x00\x00"},
		{256, "\x00\x01\x00\x00\x00\x00\x00\x00"},
		{0x0807060504030201, "\x01\x02\x03\x04\x05\x06\x07\x08"},
		{1 << 63, "\x00\x00\x00\x00\x00\x00\x00\x80"},
		{math.MaxUint64, "\xff\xff\xff\xff\xff\xff\xff\xff"},
	} {
		if got := pack.Num(c.n); got != c.want {
			t.Errorf("Num(%d): %q, not %q", c.n, got, c.want)
		}
	}
}

// P1.1: Text(s).
func TestTextIsItsLengthAndItsBytes(t *testing.T) {
	for _, c := range []struct{ s, want string }{
		{"", "\x00\x00"},
		{"a", "\x01\x00a"},
		{"\x00", "\x01\x00\x00"},
		{"é", "\x02\x00\xc3\xa9"},
		{"\xff\xfe", "\x02\x00\xff\xfe"},
		{strings.Repeat("b", 255), "\xff\x00" + strings.Repeat("b", 255)},
		{strings.Repeat("b", 256), "\x00\x01" + strings.Repeat("b", 256)},
	} {
		if got := pack.Text(c.s); got != c.want {
			t.Errorf("Text(%q): %q, not %q", c.s, got, c.want)
		}
	}
}

// P1.1: of s the first 65535 bytes.
func TestLongTextIsCutOff(t *testing.T) {
	long := strings.Repeat("0123456789", 14000)
	for _, size := range []int{65534, 65535, 65536, 65537, 131072, len(long)} {
		kept := min(size, 65535)
		want := string([]byte{byte(kept), byte(kept >> 8)}) + long[:kept]
		got := pack.Text(long[:size])
		if got != want {
			t.Errorf("Text of %d bytes: %d bytes, not %d, or others", size, len(got), len(want))
		}
		c := pack.New(got + "z")
		if back := c.Text(); back != long[:kept] || c.Left() != 1 || c.Err() != nil {
			t.Errorf("Text of %d bytes: %d come back, %d left, %v", size, len(back), c.Left(), c.Err())
		}
	}
}

// P1.1: what Num and Text take from the front, in order, and Left.
func TestCutTakesFromTheFront(t *testing.T) {
	c := pack.New(pack.Num(math.MaxUint64) + pack.Text("key") + pack.Text("") + pack.Num(0x0807060504030201) + pack.Text("\x00\xff") + "x")
	wantState := func(what string, left int) {
		t.Helper()
		if c.Left() != left || c.Err() != nil {
			t.Errorf("%s: %d left, not %d; %v", what, c.Left(), left, c.Err())
		}
	}
	wantState("at first", 28)
	wantNum(t, c, math.MaxUint64)
	wantState("behind a number", 20)
	wantText(t, c, "key")
	wantState("behind a text", 15)
	wantText(t, c, "")
	wantState("behind an empty text", 13)
	wantNum(t, c, 0x0807060504030201)
	wantState("behind another number", 5)
	wantText(t, c, "\x00\xff")
	wantState("behind the last text", 1)
}

// P1.1: taking just all that is there is no lack; one more is.
func TestCutToTheLastByte(t *testing.T) {
	c := pack.New(pack.Num(5))
	wantNum(t, c, 5)
	if c.Left() != 0 || c.Err() != nil {
		t.Errorf("all taken: %d left, %v", c.Left(), c.Err())
	}
	wantText(t, c, "")
	wantShort(t, c, 0)

	c = pack.New(pack.Text("ab"))
	wantText(t, c, "ab")
	if c.Left() != 0 || c.Err() != nil {
		t.Errorf("all taken: %d left, %v", c.Left(), c.Err())
	}
	wantNum(t, c, 0)
	wantShort(t, c, 0)
}

// P1.1: no bytes at all.
func TestCutOfNothing(t *testing.T) {
	c := pack.New("")
	if c.Left() != 0 || c.Err() != nil {
		t.Errorf("nothing asked yet: %d left, %v", c.Left(), c.Err())
	}
	wantNum(t, c, 0)
	wantShort(t, c, 0)

	c = pack.New("")
	wantText(t, c, "")
	wantShort(t, c, 0)
}

// P1.1: where bytes lack, at each place of a number and of a text, nothing is taken.
func TestLackAtEachPlace(t *testing.T) {
	for size := range 8 {
		c := pack.New("\x01\x02\x03\x04\x05\x06\x07\x08"[:size])
		wantNum(t, c, 0)
		wantShort(t, c, size)
	}
	whole := pack.Text(strings.Repeat("t", 300))
	for size := range len(whole) {
		c := pack.New(whole[:size])
		wantText(t, c, "")
		wantShort(t, c, size)
	}
	most := pack.Text(strings.Repeat("t", 65535))
	c := pack.New(most[:len(most)-1])
	wantText(t, c, "")
	wantShort(t, c, len(most)-1)
}

// P1.1: behind a lack nothing is taken any more, though it would be there.
func TestNothingIsTakenBehindALack(t *testing.T) {
	number := pack.New(pack.Text("abc"))
	wantNum(t, number, 0)
	text := pack.New("\xff\xff" + pack.Num(7) + pack.Num(8))
	wantText(t, text, "")
	for _, c := range []*pack.Cut{number, text} {
		left := c.Left()
		for range 3 {
			wantText(t, c, "")
			wantShort(t, c, left)
			wantNum(t, c, 0)
			wantShort(t, c, left)
		}
	}
}

// P1.1: a lack touches neither what was taken ahead of it nor another Cut of the same bytes.
func TestCutsAreOnTheirOwn(t *testing.T) {
	s := pack.Text("first") + pack.Text("last")
	a, b := pack.New(s), pack.New(s)
	first := a.Text()
	wantNum(t, a, 0)
	wantShort(t, a, 6)
	wantText(t, b, "first")
	wantText(t, b, "last")
	if first != "first" || b.Err() != nil || b.Left() != 0 {
		t.Errorf("%q; %d left, %v", first, b.Left(), b.Err())
	}
}

// P1.2: Sum(s).
func TestSum(t *testing.T) {
	for _, c := range []struct {
		s    string
		want uint64
	}{
		{"", 5381},
		{"\x00", 177573},
		{"a", 177670},
		{"ab", 5863208},
		{"ba", 5863240},
		{"\xff", 177828},
		{"é", (177573+0xc3)*33 + 0xa9},
		{"copyhold", 7572251884076551},
		{strings.Repeat("\xff", 12), 4640110637742037049},
	} {
		if got := pack.Sum(c.s); got != c.want {
			t.Errorf("Sum(%q): %d, not %d", c.s, got, c.want)
		}
	}
}

// P1.3: bytes of a page: what was written comes back whole, and of fewer bytes a lack is seen.
func TestBytesOfAPage(t *testing.T) {
	keys := []string{"a", "bc", "", "\x00\xff", strings.Repeat("v", 1000)}
	page := pack.Num(1) + pack.Num(uint64(len(keys)))
	for i, key := range keys {
		page += pack.Text(key) + pack.Num(uint64(i))
	}
	page = pack.Num(pack.Sum(page)) + page
	for size := range len(page) + 1 {
		c := pack.New(page[:size])
		sum, _ := c.Num(), c.Num()
		var got []string
		for i := range c.Num() {
			got = append(got, c.Text())
			if n := c.Num(); n != i && c.Err() == nil {
				t.Errorf("%d bytes: number %d of item %d", size, n, i)
			}
		}
		if whole := size == len(page); whole != (c.Err() == nil) {
			t.Errorf("%d of %d bytes: %v", size, len(page), c.Err())
		} else if whole && (sum != pack.Sum(page[8:]) || strings.Join(got, "|") != strings.Join(keys, "|") || c.Left() != 0) {
			t.Errorf("not what was written: %q, %d left", got, c.Left())
		}
	}
}

// P1.3: one byte that was changed is seen by the sum.
func TestSumSeesAChangedByte(t *testing.T) {
	page := []byte(pack.Num(3) + pack.Text("some text"))
	sum := pack.Sum(string(page))
	for i := range page {
		for flip := 1; flip < 256; flip++ {
			page[i] ^= byte(flip)
			if pack.Sum(string(page)) == sum {
				t.Errorf("byte %d, changed by %d: the same sum", i, flip)
			}
			page[i] ^= byte(flip)
		}
	}
}

func wantNum(t *testing.T, c *pack.Cut, want uint64) {
	t.Helper()
	if got := c.Num(); got != want {
		t.Errorf("Num: %d, not %d", got, want)
	}
}

func wantText(t *testing.T, c *pack.Cut, want string) {
	t.Helper()
	if got := c.Text(); got != want {
		t.Errorf("Text: %q, not %q", got, want)
	}
}

func wantShort(t *testing.T, c *pack.Cut, left int) {
	t.Helper()
	if !errors.Is(c.Err(), api.ErrShort) || c.Left() != left {
		t.Errorf("bytes lack: %d left, not %d; %v", c.Left(), left, c.Err())
	}
}
