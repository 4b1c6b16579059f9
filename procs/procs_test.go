package procs_test

import (
	"errors"
	"math"
	"math/rand/v2"
	"slices"
	"testing"

	"copyhold/api"
	"copyhold/procs"
)

// spawn wants the next process to be number want.
func spawn(t *testing.T, p *procs.Procs, want int) {
	t.Helper()
	if pid, err := p.Spawn(); pid != want || err != nil {
		t.Fatalf("Spawn: %d, %v, not %d", pid, err, want)
	}
}

func kill(t *testing.T, p *procs.Procs, pid int) {
	t.Helper()
	if err := p.Kill(pid); err != nil {
		t.Fatalf("Kill(%d): %v", pid, err)
	}
}

// wantBusy wants Spawn to be refused.
func wantBusy(t *testing.T, p *procs.Procs) {
	t.Helper()
	if pid, err := p.Spawn(); pid != 0 || !errors.Is(err, api.ErrBusy) {
		t.Fatalf("Spawn: %d, %v, not busy", pid, err)
	}
}

// wantNone wants Kill of it to be refused, and that it doesn't live.
func wantNone(t *testing.T, p *procs.Procs, pid int) {
	t.Helper()
	if p.Lives(pid) {
		t.Errorf("%d lives", pid)
	}
	if err := p.Kill(pid); !errors.Is(err, api.ErrPlace) {
		t.Errorf("Kill(%d): %v", pid, err)
	}
}

// want holds those that live against what All and Lives tell, of the numbers from -2 to 2 above the greatest that was given.
func want(t *testing.T, what string, p *procs.Procs, last int, living ...int) {
	t.Helper()
	if all := p.All(); !slices.Equal(all, living) {
		t.Fatalf("%s: %v live, not %v", what, all, living)
	}
	for pid := -2; pid <= last+2; pid++ {
		if p.Lives(pid) != slices.Contains(living, pid) {
			t.Fatalf("%s: Lives(%d): %v, of %v", what, pid, p.Lives(pid), living)
		}
	}
}

// full gives a Procs in which as many live as may, and their numbers.
func full(t *testing.T) (*procs.Procs, []int) {
	t.Helper()
	p := procs.New()
	var living []int
	for pid := 1; pid <= api.MaxProcs; pid++ {
		spawn(t, p, pid)
		living = append(living, pid)
	}
	return p, living
}

// without gives a list with these numbers taken out.
func without(list []int, gone ...int) []int {
	return slices.DeleteFunc(slices.Clone(list), func(n int) bool { return slices.Contains(gone, n) })
}

// P5.1: nobody lives at first.
func TestNew(t *testing.T) {
	p := procs.New()
	want(t, "new", p, 0)
	for pid := -1; pid <= 3; pid++ {
		wantNone(t, p, pid)
	}
	spawn(t, p, 1)
}

// P5.1: numbers from 1 on, one behind the other; each lives from then on.
func TestSpawn(t *testing.T) {
	p := procs.New()
	var living []int
	for pid := 1; pid <= api.MaxProcs; pid++ {
		spawn(t, p, pid)
		living = append(living, pid)
		want(t, "spawned", p, pid, living...)
	}
}

// The chapter's example: Spawn, Kill, Spawn: 2.
func TestSpawnKillSpawn(t *testing.T) {
	p := procs.New()
	spawn(t, p, 1)
	kill(t, p, 1)
	want(t, "killed", p, 1)
	spawn(t, p, 2)
	want(t, "spawned again", p, 2, 2)
}

// P5.1: Kill of the first one, one between, the last one, each alone; the others live on.
func TestKill(t *testing.T) {
	for _, pid := range []int{1, 2, 3, 32, 63, 64} {
		p, living := full(t)
		kill(t, p, pid)
		want(t, "one killed", p, 64, without(living, pid)...)
		wantNone(t, p, pid)
		want(t, "killed twice", p, 64, without(living, pid)...)
	}
}

// P5.1: All is rising, in whatever order they die.
func TestAllRises(t *testing.T) {
	p, living := full(t)
	for _, pid := range []int{40, 3, 64, 1, 2, 63, 4} {
		kill(t, p, pid)
		living = without(living, pid)
		want(t, "killed", p, 64, living...)
	}
	for pid := 65; pid <= 71; pid++ {
		spawn(t, p, pid)
		living = append(living, pid)
		want(t, "others instead", p, pid, living...)
	}
	wantBusy(t, p)
}

// P5.1: as many as may live, and one more, however often: it is refused, and takes no number.
func TestTooMany(t *testing.T) {
	p, living := full(t)
	for range 3 {
		wantBusy(t, p)
		want(t, "refused", p, 64, living...)
	}
	kill(t, p, 17)
	spawn(t, p, 65)
	living = append(without(living, 17), 65)
	want(t, "room for one", p, 65, living...)
	wantBusy(t, p)
	want(t, "no room for two", p, 65, living...)
	kill(t, p, 65)
	kill(t, p, 1)
	spawn(t, p, 66)
	spawn(t, p, 67)
	wantBusy(t, p)
	want(t, "room for two", p, 67, append(without(living, 1, 65), 66, 67)...)
}

// P5.1: a Kill that is refused makes no room.
func TestRefusedKillMakesNoRoom(t *testing.T) {
	p, _ := full(t)
	for _, pid := range []int{0, -1, 65, 66, math.MinInt, math.MaxInt} {
		wantNone(t, p, pid)
		wantBusy(t, p)
	}
	kill(t, p, 5)
	wantNone(t, p, 5)
	wantNone(t, p, 5)
	spawn(t, p, 65)
	wantBusy(t, p)
	wantNone(t, p, 5)
	wantBusy(t, p)
}

// P5.1: Kill and Lives of numbers that no living one has.
func TestNoSuchProcess(t *testing.T) {
	p := procs.New()
	for pid := 1; pid <= 3; pid++ {
		spawn(t, p, pid)
	}
	kill(t, p, 2)
	for _, pid := range []int{2, 0, -1, -2, -3, 4, 5, 64, 65, 1 << 32, 1<<32 + 1, math.MinInt, math.MinInt + 1, math.MaxInt} {
		wantNone(t, p, pid)
		want(t, "refused", p, 3, 1, 3)
	}
	spawn(t, p, 4)
	want(t, "given at last", p, 4, 1, 3, 4)
}

// P5.1: Power of none, of one, of some, of all that may live.
func TestPower(t *testing.T) {
	for _, n := range []int{0, 1, 2, 7, 63, 64} {
		p := procs.New()
		for pid := 1; pid <= n; pid++ {
			spawn(t, p, pid)
		}
		p.Power()
		want(t, "no power", p, n)
		for pid := 0; pid <= n+1; pid++ {
			wantNone(t, p, pid)
		}
		p.Power()
		want(t, "no power again", p, n)
		var living []int
		for pid := n + 1; pid <= n+api.MaxProcs; pid++ {
			spawn(t, p, pid)
			living = append(living, pid)
		}
		wantBusy(t, p)
		want(t, "room for all behind it", p, n+api.MaxProcs, living...)
	}
}

// P5.1: Power behind a Spawn that was refused, and behind deaths.
func TestPowerBehindDeaths(t *testing.T) {
	p, _ := full(t)
	wantBusy(t, p)
	kill(t, p, 1)
	kill(t, p, 64)
	p.Power()
	want(t, "no power", p, 64)
	spawn(t, p, 65)
	want(t, "one behind it", p, 65, 65)
}

// P5.2: a number that was is never again, and its process lives no more, whoever dies, however often power is lost.
func TestTheDeadStayDead(t *testing.T) {
	p := procs.New()
	var was []int
	for round := range 40 {
		for range 1 + round%5 {
			spawn(t, p, len(was)+1)
			was = append(was, len(was)+1)
		}
		if round%3 == 0 {
			p.Power()
		} else {
			for _, pid := range p.All() {
				kill(t, p, pid)
			}
		}
		for _, pid := range was {
			wantNone(t, p, pid)
		}
	}
}

// P5.2: far beyond as many as live at once.
func TestManyNumbers(t *testing.T) {
	p := procs.New()
	for pid := 1; pid <= 5000; pid++ {
		spawn(t, p, pid)
		kill(t, p, pid)
		wantNone(t, p, pid)
	}
	want(t, "all dead", p, 5000)
}

// Rule 3: what is done with an answer of All, its spare room too, touches neither the object nor another answer.
func TestAllIsNewMemory(t *testing.T) {
	p := procs.New()
	for pid := 1; pid <= 5; pid++ {
		spawn(t, p, pid)
	}
	first, second := p.All(), p.All()
	for i := range first[:cap(first)] {
		first[:cap(first)][i] = 99
	}
	want(t, "another answer is changed", p, 5, 1, 2, 3, 4, 5)
	if !slices.Equal(second, []int{1, 2, 3, 4, 5}) {
		t.Errorf("the second answer: %v", second)
	}
	spawn(t, p, 6)
	kill(t, p, 1)
	p.Power()
	spawn(t, p, 7)
	if !slices.Equal(second, []int{1, 2, 3, 4, 5}) {
		t.Errorf("an earlier answer: %v", second)
	}
}

// Rule 6: one object knows nothing of another one.
func TestObjectsAreApart(t *testing.T) {
	p, living := full(t)
	q := procs.New()
	spawn(t, q, 1)
	q.Power()
	spawn(t, q, 2)
	kill(t, p, 2)
	want(t, "the first", p, 64, without(living, 2)...)
	want(t, "the second", q, 2, 2)
}

// P5.1, P5.2: spawns, kills and losses of power in whatever order, held against a list of who lives.
func TestWhateverOrder(t *testing.T) {
	for seed := range uint64(30) {
		r := rand.New(rand.NewPCG(seed, 5))
		p := procs.New()
		last := 0
		var living []int
		for range 400 {
			switch n := r.IntN(100); {
			case n < 60 && len(living) == api.MaxProcs:
				wantBusy(t, p)
			case n < 60:
				last++
				spawn(t, p, last)
				living = append(living, last)
			case n < 99:
				pid := r.IntN(last+5) - 2
				if slices.Contains(living, pid) {
					kill(t, p, pid)
					living = without(living, pid)
				} else {
					wantNone(t, p, pid)
				}
			case seed%2 == 0:
				p.Power()
				living = nil
			}
			want(t, "in whatever order", p, last, living...)
		}
	}
}
