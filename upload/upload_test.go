package upload_test

import (
	"math"
	"math/big"
	"math/rand/v2"
	"slices"
	"testing"

	"thwart/upload"
)

// Values of each field, near all edges that the chapter names.
var (
	states = []int{0, 1, 2, 3, -1, 4, -2, 5, 256, 1 << 32, math.MinInt, math.MaxInt}
	tries  = []int{0, 1, 2, 4, 5, 6, 7, 8, 62, 63, 64, 65, 999, 1000, 1001, -1, -2, -64, math.MinInt, math.MinInt + 1, math.MaxInt - 1, math.MaxInt}
	times  = []int{0, 1, 2, 63, 64, 65, 999999, 1000000, 1000001, -1, -2, -64, -65, math.MinInt, math.MinInt + 1, math.MaxInt - 64, math.MaxInt - 63, math.MaxInt - 1, math.MaxInt}
	fails  = []int{0, 1, 2, 3, 19, 20, 21, 22, -1, -2, math.MinInt, math.MaxInt}
)

// wrapped is n modulo 2^64, as an int.
func wrapped(n *big.Int) int {
	all := new(big.Int).Lsh(big.NewInt(1), 64)
	n = new(big.Int).Mod(n, all)
	if n.Cmp(big.NewInt(math.MaxInt64)) > 0 {
		n.Sub(n, all)
	}
	return int(n.Int64())
}

// sum is a plus b modulo 2^64.
func sum(a, b int) int {
	return wrapped(new(big.Int).Add(big.NewInt(int64(a)), big.NewInt(int64(b))))
}

// plainPower is 2 to the power of n, at most 64, and 1 if n is less than 1.
func plainPower(n int) int {
	if n < 1 {
		return 1
	}
	power := 1
	for ; n > 0 && power < 64; n-- {
		power *= 2
	}
	return power
}

// plainDue follows the words of Due.
func plainDue(u upload.Up, now int) bool {
	switch u.State {
	case 0, 1:
		return !(now < u.Next)
	default:
		return false
	}
}

// plainStep follows the words of Step.
func plainStep(u upload.Up, now int, well bool) upload.Up {
	switch {
	case !plainDue(u, now):
		return u
	case well:
		return upload.Up{State: u.State + 1, Tries: 0, Next: now}
	default:
		failed := sum(u.Tries, 1)
		return upload.Up{State: u.State, Tries: failed, Next: sum(now, plainPower(failed))}
	}
}

// plainFirst follows the words of First: of those that are due it takes the least Next, and looks for it.
func plainFirst(now int, l []upload.Up) int {
	var nexts []int
	for _, u := range l {
		if plainDue(u, now) {
			nexts = append(nexts, u.Next)
		}
	}
	if len(nexts) == 0 {
		return -1
	}
	least := slices.Min(nexts)
	return slices.IndexFunc(l, func(u upload.Up) bool { return plainDue(u, now) && u.Next == least })
}

// plainFails are the failures that Ticks counts with.
func plainFails(fails int) int {
	switch {
	case fails < 0:
		return 0
	case fails > 20:
		return 20
	}
	return fails
}

// countable tells whether the chapter has Ticks count.
func countable(u upload.Up, now int) bool {
	return (u.State == 0 || u.State == 1) && now >= 0 && now <= 1000000 && u.Next >= 0 && u.Next <= 1000000 && u.Tries >= 0 && u.Tries <= 1000
}

// counted counts time by time, with Step and Due alone; it gives up where nothing can be published so late.
func counted(u upload.Up, now, fails int) int {
	if !countable(u, now) {
		return 0
	}
	left := plainFails(fails)
	for n := 1; n < 1100000; n++ {
		due := upload.Due(u, now)
		u = upload.Step(u, now, left == 0)
		if due && left > 0 {
			left--
		}
		if u.State == upload.Published {
			return n
		}
		now++
	}
	return -1
}

// added adds up what counting gives: the wait, the pause after each failure, and a time for each State before Published.
func added(u upload.Up, now, fails int) int {
	if !countable(u, now) {
		return 0
	}
	n := max(0, u.Next-now)
	for i := range plainFails(fails) {
		n += plainPower(u.Tries + i + 1)
	}
	return n + upload.Published - u.State
}

// bound is the one that P14.4 names.
func bound(u upload.Up, now, fails int) *big.Int {
	n := new(big.Int).Sub(big.NewInt(int64(u.Next)), big.NewInt(int64(now)))
	if n.Sign() < 0 {
		n.SetInt64(0)
	}
	return n.Add(n, big.NewInt(int64(2+64*plainFails(fails))))
}

// checkTicks tells what Ticks returns, and that it is within the bound.
func checkTicks(t *testing.T, u upload.Up, now, fails, want int) {
	t.Helper()
	got := upload.Ticks(u, now, fails)
	if got != want {
		t.Fatalf("Ticks(%+v, %d, %d) = %d, want %d", u, now, fails, got, want)
	}
	if most := bound(u, now, fails); big.NewInt(int64(got)).Cmp(most) > 0 {
		t.Fatalf("Ticks(%+v, %d, %d) = %d, more than %d", u, now, fails, got, most)
	}
}

func checkStep(t *testing.T, u upload.Up, now int, well bool, want upload.Up) {
	t.Helper()
	if got := upload.Step(u, now, well); got != want {
		t.Errorf("Step(%+v, %d, %t) = %+v, want %+v", u, now, well, got, want)
	}
}

func checkFirst(t *testing.T, now int, l []upload.Up, want int) {
	t.Helper()
	given := slices.Clone(l)
	if got := upload.First(now, given...); got != want {
		t.Errorf("First(%d, %+v) = %d, want %d", now, l, got, want)
	}
	if !slices.Equal(given, l) {
		t.Errorf("First(%d, %+v) has made %+v of them", now, l, given)
	}
}

// everyUpload calls f with the uploads of all these values.
func everyUpload(f func(u upload.Up)) {
	for _, state := range states {
		for _, failed := range tries {
			for _, next := range times {
				f(upload.Up{State: state, Tries: failed, Next: next})
			}
		}
	}
}

// one is one of l.
func one(r *rand.Rand, l []int) int {
	return l[r.IntN(len(l))]
}

// anyUpload is under way more often than not, and has small numbers or edges.
func anyUpload(r *rand.Rand) upload.Up {
	u := upload.Up{State: r.IntN(3), Tries: r.IntN(12), Next: r.IntN(200)}
	switch r.IntN(12) {
	case 0:
		u.State = one(r, states)
	case 1:
		u.Tries = one(r, tries)
	case 2:
		u.Next = one(r, times)
	case 3:
		u.Next = int(r.Uint64())
	case 4:
		u.Tries = r.IntN(1001)
	}
	return u
}

// The states

func TestStates(t *testing.T) {
	got := []int{upload.Sealed, upload.Present, upload.Published, upload.Evicted}
	if want := []int{0, 1, 2, 3}; !slices.Equal(got, want) {
		t.Errorf("the states are %d, want %d", got, want)
	}
}

// P14.1: Due

func TestDueByState(t *testing.T) {
	for _, state := range states {
		want := state == 0 || state == 1
		for _, failed := range tries {
			if got := upload.Due(upload.Up{State: state, Tries: failed, Next: 5}, 5); got != want {
				t.Errorf("State %d with Tries %d: %t, want %t", state, failed, got, want)
			}
		}
	}
}

func TestDueByTime(t *testing.T) {
	for _, c := range []struct {
		next, now int
		want      bool
	}{
		{5, 4, false}, {5, 5, true}, {5, 6, true},
		{0, -1, false}, {0, 0, true}, {0, 1, true},
		{-5, -6, false}, {-5, -5, true}, {-5, -4, true}, {-5, 0, true}, {5, -5, false},
		{math.MaxInt, math.MaxInt - 1, false}, {math.MaxInt, math.MaxInt, true}, {math.MaxInt, math.MinInt, false}, {math.MaxInt - 1, math.MaxInt, true},
		{math.MinInt, math.MinInt, true}, {math.MinInt, math.MinInt + 1, true}, {math.MinInt, math.MaxInt, true}, {math.MinInt + 1, math.MinInt, false},
		{math.MaxInt, -2, false}, {-2, math.MaxInt, true}, {2, math.MinInt, false}, {math.MinInt, 2, true},
	} {
		for _, state := range []int{upload.Sealed, upload.Present} {
			if got := upload.Due(upload.Up{State: state, Next: c.next}, c.now); got != c.want {
				t.Errorf("State %d with Next %d at %d: %t, want %t", state, c.next, c.now, got, c.want)
			}
		}
		for _, state := range []int{upload.Published, upload.Evicted, -1, 4} {
			if upload.Due(upload.Up{State: state, Next: c.next}, c.now) {
				t.Errorf("State %d with Next %d at %d is due", state, c.next, c.now)
			}
		}
	}
}

// P14.1: Step

func TestAStepBeforeItIsDue(t *testing.T) {
	for _, u := range []upload.Up{
		{State: upload.Sealed, Tries: 3, Next: 8}, {State: upload.Present, Tries: 3, Next: 8}, {State: upload.Sealed, Tries: -4, Next: math.MaxInt},
		{State: upload.Published, Tries: 3, Next: 2}, {State: upload.Evicted, Tries: 3, Next: 2}, {State: -1, Tries: 3, Next: 2}, {State: 4, Tries: 3, Next: 2},
		{State: math.MaxInt, Tries: math.MaxInt, Next: 7}, {State: math.MinInt, Tries: math.MinInt, Next: math.MinInt},
	} {
		for _, well := range []bool{true, false} {
			checkStep(t, u, 7, well, u)
		}
	}
}

func TestAStepThatGoesWell(t *testing.T) {
	for _, now := range times {
		for _, failed := range tries {
			checkStep(t, upload.Up{State: upload.Sealed, Tries: failed, Next: now}, now, true, upload.Up{State: upload.Present, Next: now})
			checkStep(t, upload.Up{State: upload.Present, Tries: failed, Next: math.MinInt}, now, true, upload.Up{State: upload.Published, Next: now})
		}
	}
}

func TestAStepThatFails(t *testing.T) {
	for _, c := range []struct{ tries, behind, pause int }{
		{0, 1, 2}, {1, 2, 4}, {2, 3, 8}, {3, 4, 16}, {4, 5, 32}, {5, 6, 64}, {6, 7, 64}, {7, 8, 64},
		{61, 62, 64}, {62, 63, 64}, {63, 64, 64}, {64, 65, 64}, {1000, 1001, 64}, {math.MaxInt - 1, math.MaxInt, 64},
		{-1, 0, 1}, {-2, -1, 1}, {-6, -5, 1}, {-64, -63, 1}, {math.MinInt, math.MinInt + 1, 1}, {math.MaxInt, math.MinInt, 1},
	} {
		for _, state := range []int{upload.Sealed, upload.Present} {
			for _, now := range []int{0, 7, 1000000, -7, -64, math.MinInt, math.MaxInt - 64} {
				u := upload.Up{State: state, Tries: c.tries, Next: math.MinInt}
				checkStep(t, u, now, false, upload.Up{State: state, Tries: c.behind, Next: now + c.pause})
				u.Next = now
				checkStep(t, u, now, false, upload.Up{State: state, Tries: c.behind, Next: now + c.pause})
			}
		}
	}
}

func TestAPauseBeyondTheGreatestTime(t *testing.T) {
	for _, c := range []struct{ tries, now, next int }{
		{0, math.MaxInt, math.MinInt + 1}, {0, math.MaxInt - 1, math.MinInt}, {0, math.MaxInt - 2, math.MaxInt},
		{-1, math.MaxInt, math.MinInt}, {-1, math.MaxInt - 1, math.MaxInt}, {math.MaxInt, math.MaxInt, math.MinInt},
		{5, math.MaxInt, math.MinInt + 63}, {99, math.MaxInt - 63, math.MinInt}, {99, math.MaxInt - 64, math.MaxInt},
	} {
		u := upload.Up{Tries: c.tries, Next: 3}
		checkStep(t, u, c.now, false, upload.Up{Tries: sum(c.tries, 1), Next: c.next})
	}
}

// After three failures an upload waits for 8 ticks.
func TestEachFailureDoublesThePause(t *testing.T) {
	u, now := upload.Up{}, 10
	for i, pause := range []int{2, 4, 8, 16, 32, 64, 64, 64} {
		u = upload.Step(u, now, false)
		if want := (upload.Up{Tries: i + 1, Next: now + pause}); u != want {
			t.Fatalf("behind failure %d: %+v, want %+v", i+1, u, want)
		}
		for waits := range pause {
			checkStep(t, u, now+waits, waits%2 == 0, u)
		}
		now += pause
	}
	checkStep(t, u, now, true, upload.Up{State: upload.Present, Next: now})
	u = upload.Step(upload.Up{State: upload.Present, Next: now}, now, false)
	if want := (upload.Up{State: upload.Present, Tries: 1, Next: now + 2}); u != want {
		t.Errorf("the first failure of the next State: %+v, want %+v", u, want)
	}
}

func TestStepAndDueByTheirWords(t *testing.T) {
	everyUpload(func(u upload.Up) {
		for _, now := range append([]int{sum(u.Next, -1), u.Next, sum(u.Next, 1)}, times...) {
			if got, want := upload.Due(u, now), plainDue(u, now); got != want {
				t.Fatalf("Due(%+v, %d) = %t, want %t", u, now, got, want)
			}
			checkStep(t, u, now, true, plainStep(u, now, true))
			checkStep(t, u, now, false, plainStep(u, now, false))
		}
	})
}

func TestDrawnSteps(t *testing.T) {
	r := rand.New(rand.NewPCG(1, 2))
	for range 3000 {
		u := anyUpload(r)
		now := r.IntN(300)
		for range 60 {
			well := r.IntN(4) == 0
			want := plainStep(u, now, well)
			checkStep(t, u, now, well, want)
			u = want
			now = sum(now, r.IntN(40)-3)
		}
	}
}

// P14.2: Evict

func TestEvict(t *testing.T) {
	for _, state := range states {
		for _, failed := range tries {
			for _, next := range times {
				u := upload.Up{State: state, Tries: failed, Next: next}
				want, wantOK := u, false
				if state == 2 {
					want, wantOK = upload.Up{State: 3, Tries: failed, Next: next}, true
				}
				if got, ok := upload.Evict(u); got != want || ok != wantOK {
					t.Fatalf("Evict(%+v) = %+v, %t; want %+v, %t", u, got, ok, want, wantOK)
				}
			}
		}
	}
}

// P14.2: First

func TestFirst(t *testing.T) {
	sealed := func(next int) upload.Up { return upload.Up{Next: next} }
	present := func(next int) upload.Up { return upload.Up{State: upload.Present, Next: next} }
	for _, c := range []struct {
		now  int
		l    []upload.Up
		want int
	}{
		{5, nil, -1},
		{5, []upload.Up{}, -1},
		{5, []upload.Up{sealed(6)}, -1},
		{5, []upload.Up{sealed(6), present(7), {State: upload.Published}, {State: upload.Evicted}, {State: -1}, {State: 4}}, -1},
		{5, []upload.Up{sealed(5)}, 0},
		{5, []upload.Up{present(5)}, 0},
		{5, []upload.Up{sealed(6), sealed(5)}, 1},
		{5, []upload.Up{sealed(6), sealed(6), present(-9), sealed(6)}, 2},
		{5, []upload.Up{sealed(5), sealed(4), sealed(3)}, 2},
		{5, []upload.Up{sealed(3), sealed(4), sealed(5)}, 0},
		{5, []upload.Up{sealed(4), present(3), sealed(5)}, 1},
		{5, []upload.Up{sealed(4), sealed(3), present(3), sealed(3)}, 1},
		{5, []upload.Up{present(3), sealed(4), sealed(3)}, 0},
		{5, []upload.Up{{State: upload.Published, Next: 1}, {State: upload.Evicted, Next: 0}, {State: -1, Next: -3}, {State: 4, Next: 2}, sealed(4), sealed(5)}, 4},
		{-5, []upload.Up{sealed(-4), sealed(0), present(-5), sealed(-6)}, 3},
		{math.MaxInt, []upload.Up{sealed(math.MaxInt), present(math.MaxInt)}, 0},
		{math.MaxInt, []upload.Up{sealed(math.MaxInt), present(0), present(math.MinInt)}, 2},
		{math.MinInt, []upload.Up{sealed(math.MinInt + 1), present(math.MaxInt), present(math.MinInt), sealed(math.MinInt)}, 2},
		{math.MinInt, []upload.Up{sealed(0), present(math.MinInt + 1)}, -1},
		{5, []upload.Up{{Tries: 9, Next: 4}, {Tries: 0, Next: 4}}, 0},
	} {
		checkFirst(t, c.now, c.l, c.want)
	}
	if got := upload.First(5); got != -1 {
		t.Errorf("First of none = %d", got)
	}
	if got := upload.First(5, present(5), sealed(4)); got != 1 {
		t.Errorf("First of two = %d, want 1", got)
	}
}

func TestDrawnFirst(t *testing.T) {
	r := rand.New(rand.NewPCG(3, 4))
	none, twice := 0, 0
	for range 20000 {
		now := r.IntN(12)
		l := make([]upload.Up, r.IntN(12))
		for i := range l {
			l[i] = upload.Up{State: r.IntN(5) - 1, Tries: r.IntN(3), Next: r.IntN(12)}
		}
		want := plainFirst(now, l)
		checkFirst(t, now, l, want)
		if want < 0 {
			none++
		} else if again := plainFirst(now, l[want+1:]); again >= 0 && l[want+1+again].Next == l[want].Next {
			twice++
		}
	}
	if none < 1000 || twice < 1000 {
		t.Errorf("none was due %d times, and the least Next stood twice %d times", none, twice)
	}
}

// P14.3

func TestTicks(t *testing.T) {
	for _, c := range []struct {
		u                upload.Up
		now, fails, want int
	}{
		// Present at 0, Published at 1.
		{upload.Up{}, 0, 0, 2},
		{upload.Up{State: upload.Present}, 0, 0, 1},
		{upload.Up{}, 700, 0, 2},
		{upload.Up{Next: 5}, 5, 0, 2},
		{upload.Up{Next: 5}, 6, 0, 2},
		{upload.Up{Next: 6}, 5, 0, 3},
		{upload.Up{State: upload.Present, Next: 6}, 5, 0, 2},
		{upload.Up{Tries: 9, Next: 15}, 5, 0, 12},
		// It fails at 0, and is Present at 2.
		{upload.Up{}, 0, 1, 4},
		{upload.Up{State: upload.Present}, 0, 1, 3},
		{upload.Up{}, 0, 2, 8},
		{upload.Up{Next: 10}, 4, 2, 14},
		{upload.Up{Tries: 4}, 0, 1, 34},
		{upload.Up{Tries: 5}, 0, 1, 66},
		{upload.Up{Tries: 1000}, 0, 1, 66},
		{upload.Up{Tries: 1000, Next: 1000000}, 0, 20, 1001282},
		{upload.Up{State: upload.Present, Tries: 1000, Next: 1000000}, 0, 20, 1001281},
		{upload.Up{Tries: 1000}, 1000000, 20, 1282},
		{upload.Up{Next: 1000000}, 1000000, 0, 2},
		{upload.Up{Next: 1000000}, 999999, 0, 3},
		// 2 + 4 + .. + 32, 15 or 16 times 64, and 2.
		{upload.Up{}, 0, 19, 62 + 14*64 + 2},
		{upload.Up{}, 0, 20, 62 + 15*64 + 2},
		{upload.Up{}, 0, 21, 62 + 15*64 + 2},
		{upload.Up{}, 0, math.MaxInt, 62 + 15*64 + 2},
		{upload.Up{}, 0, -1, 2},
		{upload.Up{}, 0, math.MinInt, 2},
		{upload.Up{State: upload.Present, Next: 3}, 0, math.MinInt, 4},
	} {
		checkTicks(t, c.u, c.now, c.fails, c.want)
	}
}

func TestTicksOfWhatIsNotCounted(t *testing.T) {
	for _, fails := range fails {
		for _, state := range states[2:] {
			checkTicks(t, upload.Up{State: state}, 0, fails, 0)
			checkTicks(t, upload.Up{State: state, Tries: 3, Next: 9}, 4, fails, 0)
		}
		for _, state := range []int{upload.Sealed, upload.Present} {
			for _, wrong := range []int{-1, 1000001, math.MinInt, math.MaxInt} {
				checkTicks(t, upload.Up{State: state}, wrong, fails, 0)
				checkTicks(t, upload.Up{State: state, Next: wrong}, 0, fails, 0)
				checkTicks(t, upload.Up{State: state, Next: wrong}, wrong, fails, 0)
				checkTicks(t, upload.Up{State: state, Next: wrong}, 1000000, fails, 0)
			}
			for _, wrong := range []int{-1, 1001, math.MinInt, math.MaxInt} {
				checkTicks(t, upload.Up{State: state, Tries: wrong}, 0, fails, 0)
			}
		}
	}
}

// Each number of failures, behind each number of Tries.
func TestTicksCountedOneByOne(t *testing.T) {
	for fails := -1; fails <= 22; fails++ {
		for failed := range 1002 {
			if failed > 20 && failed < 990 && failed%97 != 0 {
				continue
			}
			for _, state := range []int{upload.Sealed, upload.Present} {
				for _, c := range []struct{ next, now int }{{0, 0}, {5, 4}, {5, 5}, {5, 6}, {130, 0}, {0, 130}, {1000000, 999990}, {1000000, 1000000}, {999990, 1000000}} {
					u := upload.Up{State: state, Tries: failed, Next: c.next}
					checkTicks(t, u, c.now, fails, counted(u, c.now, fails))
				}
			}
		}
	}
}

func TestLongWaitsCountedOneByOne(t *testing.T) {
	for _, u := range []upload.Up{{Next: 1000000}, {State: upload.Present, Tries: 7, Next: 1000000}, {Tries: 1000, Next: 999999}, {Tries: 1, Next: 65537}} {
		for _, fails := range []int{0, 1, 20} {
			checkTicks(t, u, 0, fails, counted(u, 0, fails))
		}
	}
}

func TestTicksAddedUp(t *testing.T) {
	everyUpload(func(u upload.Up) {
		for _, now := range times {
			for _, fails := range fails {
				checkTicks(t, u, now, fails, added(u, now, fails))
			}
		}
	})
}

func TestDrawnTicks(t *testing.T) {
	r := rand.New(rand.NewPCG(5, 6))
	for range 20000 {
		u, now, fails := anyUpload(r), r.IntN(200), r.IntN(25)-2
		if u.Next-now < 2000 {
			checkTicks(t, u, now, fails, counted(u, now, fails))
		}
		checkTicks(t, u, now, fails, added(u, now, fails))
	}
}

// P14.4

func TestTicksAreWithinTheBound(t *testing.T) {
	r := rand.New(rand.NewPCG(7, 8))
	for range 200000 {
		u := upload.Up{State: r.IntN(2), Tries: r.IntN(1001), Next: r.IntN(1000001)}
		now, fails := r.IntN(1000001), r.IntN(24)-2
		got := upload.Ticks(u, now, fails)
		if got < 1 || big.NewInt(int64(got)).Cmp(bound(u, now, fails)) > 0 {
			t.Fatalf("Ticks(%+v, %d, %d) = %d, the bound is %d", u, now, fails, got, bound(u, now, fails))
		}
	}
}

// How long the wait is and when it starts makes no difference to what comes behind it: a few stand for all.
func TestAllTriesAndFailuresAreWithinTheBound(t *testing.T) {
	for failed := range 1001 {
		for fails := range 21 {
			for _, state := range []int{upload.Sealed, upload.Present} {
				for _, c := range []struct{ next, now int }{{0, 0}, {0, 1000000}, {1000000, 0}, {17, 9}} {
					u := upload.Up{State: state, Tries: failed, Next: c.next}
					checkTicks(t, u, c.now, fails, added(u, c.now, fails))
				}
			}
		}
	}
}

// What is Sealed needs all of it where each pause is the longest one, and what is Present one less.
func TestTheBoundIsReached(t *testing.T) {
	for _, failed := range []int{5, 6, 7, 64, 999, 1000} {
		for fails := 1; fails <= 20; fails++ {
			for _, c := range []struct{ next, now int }{{0, 0}, {9, 9}, {9, 30}, {30, 9}, {1000000, 0}, {0, 1000000}, {1000000, 1000000}} {
				for _, state := range []int{upload.Sealed, upload.Present} {
					u := upload.Up{State: state, Tries: failed, Next: c.next}
					want := max(0, c.next-c.now) + 2 + 64*fails - state
					checkTicks(t, u, c.now, fails, want)
				}
			}
		}
	}
}

// R4

func TestTheSameCallsHaveTheSameResults(t *testing.T) {
	for _, u := range []upload.Up{{}, {State: upload.Present, Tries: 3, Next: 4}, {State: upload.Published}, {Next: 90}} {
		l := []upload.Up{u, {Next: 3}, u}
		first, step, ticks := upload.First(9, l...), upload.Step(u, 9, false), upload.Ticks(u, 9, 3)
		for range 3 {
			checkFirst(t, 9, l, first)
			checkStep(t, u, 9, false, step)
			checkTicks(t, u, 9, 3, ticks)
			upload.Evict(u)
			upload.Step(u, 9, true)
		}
	}
}

func FuzzUploads(f *testing.F) {
	f.Add(0, 0, 0, 0, 0, true)
	f.Add(1, 5, 30, 9, 20, false)
	f.Add(0, 1000, 1000000, 999999, 21, true)
	f.Add(2, math.MaxInt, math.MinInt, math.MaxInt, math.MinInt, false)
	f.Fuzz(func(t *testing.T, state, tries, next, now, fails int, well bool) {
		u := upload.Up{State: state, Tries: tries, Next: next}
		if got, want := upload.Due(u, now), plainDue(u, now); got != want {
			t.Errorf("Due(%+v, %d) = %t, want %t", u, now, got, want)
		}
		checkStep(t, u, now, well, plainStep(u, now, well))
		checkTicks(t, u, now, fails, added(u, now, fails))
		l := []upload.Up{{State: state + 1, Next: fails}, u, {Next: tries}, {State: 1, Next: next}}
		checkFirst(t, now, l, plainFirst(now, l))
	})
}
