package lock_test

import (
	"errors"
	"math"
	"math/rand/v2"
	"slices"
	"strconv"
	"testing"

	"copyhold/api"
	"copyhold/lock"
	"copyhold/pack"
	"copyhold/procs"
)

// living gives a Procs in which 1 to n live.
func living(t *testing.T, n int) *procs.Procs {
	t.Helper()
	p := procs.New()
	for pid := 1; pid <= n; pid++ {
		if got, err := p.Spawn(); got != pid || err != nil {
			t.Fatalf("Spawn: %d, %v", got, err)
		}
	}
	return p
}

func kill(t *testing.T, p *procs.Procs, pid int) {
	t.Helper()
	if err := p.Kill(pid); err != nil {
		t.Fatalf("Kill(%d): %v", pid, err)
	}
}

// with gives as many slots as there are, these the first ones, the others free.
func with(first ...api.Slot) []api.Slot {
	return append(slices.Clone(first), make([]api.Slot, 8-len(first))...)
}

// written gives the bytes of a lock file, as the chapter says them.
func written(writer int, slots []api.Slot) string {
	s := pack.Num(4242) + pack.Num(1) + pack.Num(uint64(writer))
	for _, x := range slots {
		s += pack.Num(uint64(x.Pid)) + pack.Num(x.Txn)
	}
	return s
}

// want holds a lock against its writer and its slots.
func want(t *testing.T, what string, l *lock.Lock, writer int, slots []api.Slot) {
	t.Helper()
	if l.Writer() != writer {
		t.Fatalf("%s: writer %d, not %d", what, l.Writer(), writer)
	}
	if got := l.Slots(); !slices.Equal(got, slots) {
		t.Fatalf("%s: slots %v, not %v", what, got, slots)
	}
	if l.Bytes() != written(writer, slots) {
		t.Fatalf("%s: bytes %q", what, l.Bytes())
	}
}

func take(t *testing.T, l *lock.Lock, pid int, p *procs.Procs, taken bool) {
	t.Helper()
	if got := l.Take(pid, p); got != taken {
		t.Fatalf("Take(%d): %v; writer %d", pid, got, l.Writer())
	}
}

func release(t *testing.T, l *lock.Lock, pid int, released bool) {
	t.Helper()
	if got := l.Release(pid); got != released {
		t.Fatalf("Release(%d): %v; writer %d", pid, got, l.Writer())
	}
}

// claim wants the next slot of pid to be this one.
func claim(t *testing.T, l *lock.Lock, pid, slot int) {
	t.Helper()
	if got, err := l.Claim(pid); got != slot || err != nil {
		t.Fatalf("Claim(%d): %d, %v, not %d", pid, got, err, slot)
	}
}

func wantNoSlot(t *testing.T, l *lock.Lock, pid int) {
	t.Helper()
	if got, err := l.Claim(pid); got != -1 || !errors.Is(err, api.ErrReaders) {
		t.Fatalf("Claim(%d): %d, %v", pid, got, err)
	}
}

func publish(t *testing.T, l *lock.Lock, slot, pid int, txn uint64) {
	t.Helper()
	if err := l.Publish(slot, pid, txn); err != nil {
		t.Fatalf("Publish(%d, %d, %d): %v", slot, pid, txn, err)
	}
}

func free(t *testing.T, l *lock.Lock, slot, pid int) {
	t.Helper()
	if err := l.Free(slot, pid); err != nil {
		t.Fatalf("Free(%d, %d): %v", slot, pid, err)
	}
}

// wantNotIts wants Publish and Free of that slot to be refused.
func wantNotIts(t *testing.T, l *lock.Lock, slot, pid int) {
	t.Helper()
	for _, txn := range []uint64{0, 1, math.MaxUint64} {
		if err := l.Publish(slot, pid, txn); !errors.Is(err, api.ErrSlot) {
			t.Fatalf("Publish(%d, %d, %d): %v", slot, pid, txn, err)
		}
	}
	if err := l.Free(slot, pid); !errors.Is(err, api.ErrSlot) {
		t.Fatalf("Free(%d, %d): %v", slot, pid, err)
	}
}

func wantSwept(t *testing.T, l *lock.Lock, p *procs.Procs, n int) {
	t.Helper()
	if got := l.Sweep(p); got != n {
		t.Fatalf("Sweep: %d, not %d; %v", got, n, l.Slots())
	}
}

func wantOldest(t *testing.T, l *lock.Lock, last, oldest uint64) {
	t.Helper()
	if got := l.Oldest(last); got != oldest {
		t.Fatalf("Oldest(%d): %d, not %d; %v", last, got, oldest, l.Slots())
	}
}

// wantRead wants s to be the bytes of a lock with that writer and these slots.
func wantRead(t *testing.T, s string, writer int, slots []api.Slot) *lock.Lock {
	t.Helper()
	l, err := lock.Read(s)
	if err != nil || l == nil {
		t.Fatalf("Read of writer %d, %v: %v", writer, slots, err)
	}
	want(t, "read", l, writer, slots)
	if l.Bytes() != s {
		t.Fatalf("Read of writer %d, %v: %q", writer, slots, l.Bytes())
	}
	return l
}

func wantRefused(t *testing.T, what, s string, number api.Errno) {
	t.Helper()
	if l, err := lock.Read(s); l != nil || !errors.Is(err, number) {
		t.Errorf("Read of %s: %v, %v, not %v", what, l, err, number)
	}
}

// full gives a lock whose slots all are taken, slot i by 1 + i%3.
func full(t *testing.T) (*lock.Lock, []api.Slot) {
	t.Helper()
	l := lock.New()
	var slots []api.Slot
	for i := range api.MaxSlots {
		claim(t, l, 1+i%3, i)
		slots = append(slots, api.Slot{Pid: 1 + i%3})
	}
	return l, slots
}

// P6.1: New.
func TestNew(t *testing.T) {
	l := lock.New()
	want(t, "new", l, 0, make([]api.Slot, 8))
	wantOldest(t, l, 7, 7)
	wantSwept(t, l, procs.New(), 0)
	for slot := -1; slot <= 8; slot++ {
		wantNotIts(t, l, slot, 1)
	}
	want(t, "asked", l, 0, make([]api.Slot, 8))
}

// P6.1: Bytes, each number where the chapter puts it.
func TestBytes(t *testing.T) {
	l := lock.New()
	s := l.Bytes()
	if len(s) != 19*8 || s[:24] != "\x92\x10\x00\x00\x00\x00\x00\x00\x01\x00\x00\x00\x00\x00\x00\x00\x00\x00\x00\x00\x00\x00\x00\x00" {
		t.Fatalf("new: %q", s)
	}
	take(t, l, 513, procs.New(), true)
	for i := range 8 {
		claim(t, l, 300+i, i)
		publish(t, l, i, 300+i, uint64(i)<<56|uint64(i)+1)
	}
	c := pack.New(l.Bytes())
	for i, n := range []uint64{4242, 1, 513} {
		if got := c.Num(); got != n {
			t.Errorf("number %d: %d", i, got)
		}
	}
	for i := range uint64(8) {
		if pid, txn := c.Num(), c.Num(); pid != 300+i || txn != i<<56|i+1 {
			t.Errorf("slot %d: %d, %d", i, pid, txn)
		}
	}
	if c.Err() != nil || c.Left() != 0 {
		t.Errorf("%v, %d left", c.Err(), c.Left())
	}
}

// P6.1: what is written is read, and the lock that was read goes on by itself.
func TestReadWhatWasWritten(t *testing.T) {
	p := living(t, 3)
	l := lock.New()
	l = wantRead(t, l.Bytes(), 0, with())
	take(t, l, 2, p, true)
	claim(t, l, 1, 0)
	claim(t, l, 3, 1)
	publish(t, l, 1, 3, math.MaxUint64)
	slots := with(api.Slot{Pid: 1}, api.Slot{Pid: 3, Txn: math.MaxUint64})
	m := wantRead(t, l.Bytes(), 2, slots)
	take(t, m, 1, p, false)
	take(t, m, 2, p, false)
	release(t, m, 1, false)
	publish(t, m, 0, 1, 6)
	claim(t, m, 2, 2)
	wantOldest(t, m, 9, 6)
	release(t, m, 2, true)
	release(t, m, 2, false)
	take(t, m, 3, p, true)
	want(t, "what it was read of", l, 2, slots)
}

// P6.1: a lock that was read without a writer, or with one who is dead, can be taken.
func TestTakeWhatWasRead(t *testing.T) {
	p := living(t, 2)
	l := wantRead(t, written(0, with()), 0, with())
	release(t, l, 0, false)
	take(t, l, 1, p, true)
	l = wantRead(t, written(7, with()), 7, with())
	take(t, l, 7, p, false)
	take(t, l, 1, p, true)
	take(t, l, 2, p, false)
	want(t, "taken over", l, 1, with())
}

// P6.1: Writer and each Pid from 0 to 1000000, and one more; a Txn is whatever it is.
func TestReadGreatestPid(t *testing.T) {
	for _, pid := range []int{0, 1, 64, 65, 999999, 1000000} {
		wantRead(t, written(pid, with()), pid, with())
	}
	for _, pid := range []int{1000001, 1000002, 1 << 20, 1 << 32, 1<<32 + 1, math.MaxInt, math.MinInt, -1} {
		wantRefused(t, "writer "+strconv.Itoa(pid), written(pid, with()), api.ErrCorrupt)
	}
	for i := range 8 {
		for _, txn := range []uint64{0, 1, 1000001, math.MaxUint64} {
			slots := with()
			for _, pid := range []int{1, 999999, 1000000} {
				slots[i] = api.Slot{Pid: pid, Txn: txn}
				wantRead(t, written(3, slots), 3, slots)
			}
			for _, pid := range []int{1000001, 1 << 32, 1<<32 + 1, math.MaxInt, math.MinInt, -1} {
				slots[i] = api.Slot{Pid: pid, Txn: txn}
				wantRefused(t, "a slot of "+strconv.Itoa(pid), written(3, slots), api.ErrCorrupt)
			}
		}
	}
}

// P6.1: a slot that is free has no Txn.
func TestReadFreeSlotWithTxn(t *testing.T) {
	for i := range 8 {
		for _, txn := range []uint64{1, 2, 1 << 32, math.MaxUint64} {
			for _, others := range []int{0, 5} {
				slots := slices.Repeat([]api.Slot{{Pid: others}}, 8)
				slots[i] = api.Slot{Txn: txn}
				wantRefused(t, "a free slot with a Txn", written(1, slots), api.ErrCorrupt)
			}
		}
	}
}

// P6.1: bytes that lack, at each place, and bytes that are left.
func TestReadLackAndLeft(t *testing.T) {
	for _, whole := range []string{
		lock.New().Bytes(),
		written(2, with(api.Slot{Pid: 1, Txn: 4}, api.Slot{}, api.Slot{Pid: 3})),
		written(1000000, slices.Repeat([]api.Slot{{Pid: 1000000, Txn: math.MaxUint64}}, 8)),
	} {
		for size := range len(whole) {
			wantRefused(t, strconv.Itoa(size)+" bytes", whole[:size], api.ErrCorrupt)
		}
		for _, more := range []string{"\x00", "x", pack.Num(0), pack.Num(0) + pack.Num(0), pack.Num(1) + pack.Num(1), whole} {
			wantRefused(t, strconv.Itoa(len(more))+" bytes more", whole+more, api.ErrCorrupt)
		}
	}
}

// P6.1: a wrong first number, whatever the second one is.
func TestReadWrongMark(t *testing.T) {
	rest := written(1, with())[16:]
	for _, first := range []uint64{0, 1, 2, 4241, 4243, 4242 + 1<<32, 4242 << 8, math.MaxUint64} {
		for _, second := range []uint64{0, 1, 2, 4242, math.MaxUint64} {
			wantRefused(t, "another mark", pack.Num(first)+pack.Num(second)+rest, api.ErrCorrupt)
			wantRefused(t, "another mark, and no more", pack.Num(first)+pack.Num(second), api.ErrCorrupt)
		}
	}
}

// P6.1: another version, whatever stands behind it, or lacks; it must be there itself.
func TestReadAnotherVersion(t *testing.T) {
	bad := slices.Repeat([]api.Slot{{Pid: -1, Txn: 1}, {Txn: 1}}, 4)
	for _, second := range []uint64{0, 2, 3, 1 + 1<<32, 1 << 8, math.MaxUint64} {
		head := pack.Num(4242) + pack.Num(second)
		for _, rest := range []string{"", "x", pack.Num(1), written(1, with())[16:], written(-1, bad)[16:], written(1, with())[16:] + "left"} {
			wantRefused(t, "version "+strconv.FormatUint(second, 10), head+rest, api.ErrVersion)
		}
		for size := range len(head) {
			wantRefused(t, "a piece of the version", head[:size], api.ErrCorrupt)
		}
	}
	wantRefused(t, "the right version alone", pack.Num(4242)+pack.Num(1), api.ErrCorrupt)
}

// P6.1: whatever the bytes are, Read comes back; what it takes is what Bytes gives.
func TestReadWhatever(t *testing.T) {
	r := rand.New(rand.NewPCG(6, 1))
	whole := written(2, with(api.Slot{Pid: 1, Txn: 4}, api.Slot{}, api.Slot{Pid: 3}))
	for range 20000 {
		s := []byte(whole)
		for range r.IntN(4) {
			s[r.IntN(len(s))] = byte(r.IntN(256))
		}
		s = s[:len(s)-r.IntN(2)*r.IntN(len(s))]
		l, err := lock.Read(string(s))
		switch {
		case err == nil && (l == nil || l.Bytes() != string(s)):
			t.Fatalf("Read of %q: another lock", s)
		case err != nil && (l != nil || !errors.Is(err, api.ErrCorrupt) && !errors.Is(err, api.ErrVersion)):
			t.Fatalf("Read of %q: %v, %v", s, l, err)
		}
	}
}

// P6.2: Take and Release by those who live.
func TestTakeAndRelease(t *testing.T) {
	p := living(t, 3)
	l := lock.New()
	for _, pid := range []int{1, 2, 3, 2} {
		release(t, l, pid, false)
		take(t, l, pid, p, true)
		want(t, "taken", l, pid, with())
		for other := 1; other <= 3; other++ {
			take(t, l, other, p, false)
			want(t, "Take by another one, and twice by the same", l, pid, with())
			if other != pid {
				release(t, l, other, false)
				want(t, "released by another one", l, pid, with())
			}
		}
		release(t, l, pid, true)
		want(t, "released", l, 0, with())
		release(t, l, pid, false)
	}
}

// P6.2: pids of 0 and below, of a lock that is taken and of one that isn't.
func TestWriterAboveZero(t *testing.T) {
	p := living(t, 2)
	l := lock.New()
	for _, writer := range []int{0, 2} {
		for _, pid := range []int{0, -1, -2, math.MinInt} {
			take(t, l, pid, p, false)
			release(t, l, pid, false)
			want(t, "of nobody", l, writer, with())
		}
		take(t, l, 2, p, writer == 0)
	}
	kill(t, p, 2)
	for _, pid := range []int{0, -1, -2, math.MinInt} {
		take(t, l, pid, p, false)
		release(t, l, pid, false)
		want(t, "of nobody, of a dead one's", l, 2, with())
	}
}

// P6.2: who takes it needn't live; another one may take it over then, and itself may not take it twice.
func TestTakeByOneThatNeverLived(t *testing.T) {
	p := living(t, 2)
	l := lock.New()
	for _, pid := range []int{9, 1000001, math.MaxInt} {
		take(t, l, pid, p, true)
		want(t, "taken", l, pid, with())
		take(t, l, pid, p, false)
		want(t, "twice by the same", l, pid, with())
	}
	take(t, l, 1, p, true)
	take(t, l, 9, p, false)
	want(t, "by one who lives", l, 1, with())
}

// P6.2: whether the writer lives is asked of the processes that are handed over.
func TestTakeAsksTheseProcesses(t *testing.T) {
	l := lock.New()
	take(t, l, 1, living(t, 1), true)
	take(t, l, 2, living(t, 1), false)
	take(t, l, 2, procs.New(), true)
	want(t, "taken over", l, 2, with())
}

// P6.2: as many slots as there are, and one more, however often.
func TestClaim(t *testing.T) {
	l := lock.New()
	slots := with()
	for i := range 8 {
		claim(t, l, 10+i, i)
		slots[i].Pid = 10 + i
		want(t, "claimed", l, 0, slots)
	}
	for _, pid := range []int{1, 10, 17, 18, math.MaxInt} {
		wantNoSlot(t, l, pid)
		want(t, "no slot", l, 0, slots)
	}
}

// P6.2: one process may have several slots, each is let go by itself.
func TestClaimSeveral(t *testing.T) {
	l := lock.New()
	for i := range 8 {
		claim(t, l, 4, i)
	}
	wantNoSlot(t, l, 4)
	publish(t, l, 2, 4, 8)
	free(t, l, 5, 4)
	slots := slices.Repeat([]api.Slot{{Pid: 4}}, 8)
	slots[2].Txn = 8
	slots[5].Pid = 0
	want(t, "one of eight is free", l, 0, slots)
}

// P6.2: Claim by pids of 0 and below.
func TestClaimAboveZero(t *testing.T) {
	l := lock.New()
	claim(t, l, 1, 0)
	for _, pid := range []int{0, -1, -2, math.MinInt} {
		wantNoSlot(t, l, pid)
		want(t, "of nobody", l, 0, with(api.Slot{Pid: 1}))
	}
	claim(t, l, math.MaxInt, 1)
	want(t, "of anybody", l, 0, with(api.Slot{Pid: 1}, api.Slot{Pid: math.MaxInt}))
}

// P6.2: a freed slot is claimed again, the first one first, without the Txn that it had.
func TestFreedIsClaimedAgain(t *testing.T) {
	l, slots := full(t)
	for i, s := range slots {
		publish(t, l, i, s.Pid, uint64(20+i))
		slots[i].Txn = uint64(20 + i)
	}
	for _, slot := range []int{6, 1, 7, 0, 3} {
		free(t, l, slot, slots[slot].Pid)
		slots[slot] = api.Slot{}
		want(t, "freed", l, 0, slots)
	}
	for _, slot := range []int{0, 1, 3, 6, 7} {
		claim(t, l, 5, slot)
		slots[slot] = api.Slot{Pid: 5}
		want(t, "claimed again", l, 0, slots)
	}
	wantNoSlot(t, l, 5)
}

// P6.2: Publish, as often as one likes, of whatever Txn.
func TestPublish(t *testing.T) {
	l, slots := full(t)
	for _, txn := range []uint64{5, 9, 3, 0, 1 << 40, math.MaxUint64, 1} {
		for i, s := range slots {
			publish(t, l, i, s.Pid, txn+uint64(i))
			slots[i].Txn = txn + uint64(i)
			want(t, "published", l, 0, slots)
		}
	}
}

// P6.2: another one's slot, a free one, one that isn't there.
func TestNotItsSlot(t *testing.T) {
	l, slots := full(t)
	publish(t, l, 4, 2, 6)
	free(t, l, 7, 2)
	slots[4].Txn = 6
	slots[7] = api.Slot{}
	for _, slot := range []int{math.MinInt, -9, -8, -2, -1, 0, 1, 2, 3, 4, 5, 6, 7, 8, 9, 16, 1 << 32, math.MaxInt} {
		for _, pid := range []int{math.MinInt, -1, 0, 1, 2, 3, 4, 1<<32 + 1, math.MaxInt} {
			if slot < 0 || slot > 6 || slots[slot].Pid != pid {
				wantNotIts(t, l, slot, pid)
				want(t, "refused", l, 0, slots)
			}
		}
	}
	free(t, l, 4, 2)
	wantNotIts(t, l, 4, 2)
}

// P6.2: the slots of the writer's lock are apart from it.
func TestWriterAndSlotsAreApart(t *testing.T) {
	p := living(t, 2)
	l := lock.New()
	take(t, l, 1, p, true)
	wantNotIts(t, l, 0, 1)
	claim(t, l, 1, 0)
	publish(t, l, 0, 1, 3)
	release(t, l, 1, true)
	want(t, "released", l, 0, with(api.Slot{Pid: 1, Txn: 3}))
	take(t, l, 2, p, true)
	free(t, l, 0, 1)
	want(t, "freed", l, 2, with())
}

// P6.2, P6.3: Sweep of none, of some, of all; those who live keep theirs.
func TestSweep(t *testing.T) {
	p := living(t, 3)
	l, slots := full(t)
	for i, s := range slots {
		publish(t, l, i, s.Pid, uint64(30+i))
		slots[i].Txn = uint64(30 + i)
	}
	wantSwept(t, l, p, 0)
	want(t, "all live", l, 0, slots)
	for _, c := range []struct{ pid, slots int }{{2, 3}, {3, 2}, {1, 3}} {
		kill(t, p, c.pid)
		wantSwept(t, l, p, c.slots)
		for i, s := range slots {
			if s.Pid == c.pid {
				slots[i] = api.Slot{}
			}
		}
		want(t, "swept", l, 0, slots)
		wantSwept(t, l, p, 0)
		want(t, "swept twice", l, 0, slots)
	}
	claim(t, l, 4, 0)
	claim(t, l, 5, 1)
	if pid, err := p.Spawn(); pid != 4 || err != nil {
		t.Fatalf("Spawn: %d, %v", pid, err)
	}
	wantSwept(t, l, p, 1)
	want(t, "one that never lived", l, 0, with(api.Slot{Pid: 4}))
}

// P6.2: Sweep is of slots; the lock of a dead writer is taken over by Take.
func TestSweepLeavesTheWriter(t *testing.T) {
	p := living(t, 2)
	l := lock.New()
	take(t, l, 1, p, true)
	claim(t, l, 1, 0)
	kill(t, p, 1)
	wantSwept(t, l, p, 1)
	want(t, "swept", l, 1, with())
	take(t, l, 2, p, true)
	want(t, "taken over", l, 2, with())
}

// P6.2: Oldest: a slot whose Txn is 0 doesn't count, last does.
func TestOldest(t *testing.T) {
	l := lock.New()
	for _, last := range []uint64{0, 1, 7, math.MaxUint64} {
		wantOldest(t, l, last, last)
	}
	for i := range 8 {
		claim(t, l, 1, i)
	}
	for _, last := range []uint64{0, 1, 7, math.MaxUint64} {
		wantOldest(t, l, last, last)
	}
	for i := range 8 {
		publish(t, l, i, 1, 50)
		for _, c := range [][2]uint64{{0, 0}, {1, 1}, {49, 49}, {50, 50}, {51, 50}, {math.MaxUint64, 50}} {
			wantOldest(t, l, c[0], c[1])
		}
		publish(t, l, i, 1, 0)
		wantOldest(t, l, 51, 51)
	}
	for i := range 8 {
		publish(t, l, i, 1, uint64(50-i))
		wantOldest(t, l, 100, uint64(50-i))
	}
	for i := 7; i >= 0; i-- {
		wantOldest(t, l, 100, uint64(50-i))
		free(t, l, i, 1)
	}
	wantOldest(t, l, 100, 100)
	claim(t, l, 1, 0)
	publish(t, l, 0, 1, math.MaxUint64)
	wantOldest(t, l, 100, 100)
	wantOldest(t, l, math.MaxUint64, math.MaxUint64)
	want(t, "asking changes nothing", l, 0, with(api.Slot{Pid: 1, Txn: math.MaxUint64}))
}

// P6.3 and the chapter's example: Take by 1, 1 dies, Take by 2: true.
func TestTheLockOfADeadWriter(t *testing.T) {
	p := living(t, 3)
	l := lock.New()
	take(t, l, 1, p, true)
	take(t, l, 2, p, false)
	kill(t, p, 1)
	want(t, "dead", l, 1, with())
	take(t, l, 1, p, false)
	take(t, l, 2, p, true)
	want(t, "taken over", l, 2, with())
	release(t, l, 1, false)
	take(t, l, 3, p, false)
	p.Power()
	take(t, l, 3, p, true)
	want(t, "taken over again", l, 3, with())
	release(t, l, 3, true)
	take(t, l, 2, p, true)
	want(t, "released and taken", l, 2, with())
}

// P6.3: the dead hold nothing: behind deaths all slots can be had, no version of a dead one is kept, and the lock can be taken.
func TestTheDeadHoldNothing(t *testing.T) {
	p := living(t, 1)
	l := lock.New()
	for pid := 1; pid <= 40; pid++ {
		take(t, l, pid, p, true)
		for slot := range 8 {
			claim(t, l, pid, slot)
			publish(t, l, slot, pid, uint64(pid))
		}
		wantNoSlot(t, l, pid)
		wantOldest(t, l, 100, uint64(pid))
		if pid%2 == 0 {
			p.Power()
		} else {
			kill(t, p, pid)
		}
		wantSwept(t, l, p, 8)
		wantOldest(t, l, 100, 100)
		if next, err := p.Spawn(); next != pid+1 || err != nil {
			t.Fatalf("Spawn: %d, %v", next, err)
		}
	}
}

// Rule 3: what is done with an answer of Slots, its spare room too, touches neither the lock nor another answer.
func TestSlotsIsNewMemory(t *testing.T) {
	l, slots := full(t)
	first, second := l.Slots(), l.Slots()
	for i := range first[:cap(first)] {
		first[:cap(first)][i] = api.Slot{Pid: 77, Txn: 77}
	}
	want(t, "another answer is changed", l, 0, slots)
	free(t, l, 0, 1)
	publish(t, l, 1, 2, 9)
	if !slices.Equal(second, slots) {
		t.Errorf("an earlier answer: %v, not %v", second, slots)
	}
}

// Rule 6: one lock knows nothing of another one.
func TestLocksAreApart(t *testing.T) {
	p := living(t, 2)
	a, b := lock.New(), lock.New()
	take(t, a, 1, p, true)
	take(t, b, 2, p, true)
	claim(t, a, 1, 0)
	claim(t, a, 1, 1)
	claim(t, b, 2, 0)
	release(t, b, 2, true)
	want(t, "the first", a, 1, with(api.Slot{Pid: 1}, api.Slot{Pid: 1}))
	want(t, "the second", b, 0, with(api.Slot{Pid: 2}))
}

// model: a lock as the chapter's words say it, and who lives.
type model struct {
	writer int
	slots  []api.Slot
	lives  []int
}

func (m *model) take(pid int) bool {
	if pid <= 0 || pid == m.writer || m.writer != 0 && slices.Contains(m.lives, m.writer) {
		return false
	}
	m.writer = pid
	return true
}

func (m *model) release(pid int) bool {
	if pid <= 0 || pid != m.writer {
		return false
	}
	m.writer = 0
	return true
}

func (m *model) claim(pid int) int {
	i := slices.IndexFunc(m.slots, func(s api.Slot) bool { return s.Pid == 0 })
	if pid <= 0 {
		i = -1
	}
	if i >= 0 {
		m.slots[i].Pid = pid
	}
	return i
}

func (m *model) its(slot, pid int) bool {
	return pid > 0 && slot >= 0 && slot < len(m.slots) && m.slots[slot].Pid == pid
}

func (m *model) sweep() int {
	n := 0
	for i, s := range m.slots {
		if s.Pid != 0 && !slices.Contains(m.lives, s.Pid) {
			m.slots[i] = api.Slot{}
			n++
		}
	}
	return n
}

func (m *model) oldest(last uint64) uint64 {
	all := []uint64{last}
	for _, s := range m.slots {
		if s.Txn > 0 {
			all = append(all, s.Txn)
		}
	}
	return slices.Min(all)
}

// P6.1, P6.2, P6.3: takings, releases, claims, publishings, deaths in whatever order, now and then written and read.
func TestWhateverOrder(t *testing.T) {
	for seed := range uint64(60) {
		r := rand.New(rand.NewPCG(seed, 6))
		p := procs.New()
		l := lock.New()
		m := &model{slots: with()}
		last := 0
		for range 500 {
			pid, slot := r.IntN(last+4)-1, r.IntN(10)-1
			if len(m.lives) > 0 && r.IntN(2) == 0 {
				pid = m.lives[r.IntN(len(m.lives))]
			}
			switch r.IntN(12) {
			case 0, 1:
				if len(m.lives) < 6 {
					last, _ = p.Spawn()
					m.lives = append(m.lives, last)
				}
			case 2:
				if err := p.Kill(pid); (err == nil) != slices.Contains(m.lives, pid) {
					t.Fatalf("Kill(%d): %v", pid, err)
				}
				m.lives = p.All()
			case 3, 4:
				take(t, l, pid, p, m.take(pid))
			case 5:
				release(t, l, pid, m.release(pid))
			case 6, 7:
				if i := m.claim(pid); i >= 0 {
					claim(t, l, pid, i)
				} else {
					wantNoSlot(t, l, pid)
				}
			case 8, 9:
				if txn := uint64(r.IntN(30)); m.its(slot, pid) {
					publish(t, l, slot, pid, txn)
					m.slots[slot].Txn = txn
				} else {
					wantNotIts(t, l, slot, pid)
				}
			case 10:
				if m.its(slot, pid) {
					free(t, l, slot, pid)
					m.slots[slot] = api.Slot{}
				}
			case 11:
				if r.IntN(3) == 0 {
					wantSwept(t, l, p, m.sweep())
				} else {
					l = wantRead(t, l.Bytes(), m.writer, m.slots)
				}
			}
			want(t, "in whatever order", l, m.writer, m.slots)
			wantOldest(t, l, 20, m.oldest(20))
		}
	}
}
