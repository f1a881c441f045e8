package sched_test

import (
	"math"
	"math/big"
	"slices"
	"testing"

	"ratchet/api"
	"ratchet/sched"
)

const (
	most  = math.MaxInt64
	least = math.MinInt64
	last  = 1000000 // the last step
)

var (
	kinds   = []int{api.Const, api.Root, api.Drop, api.Poly}
	noKinds = []int{-1, -2, -4, 4, 5, 7, 8, 255, 256, 258, -254, 1 << 32, 1<<32 + 2, math.MinInt, math.MinInt + 2, math.MaxInt}
	fracs   = []int{0, 1, 2, 7, 8, 20, 31, 32, 33, 39, api.MaxFrac}
	noFracs = []int{-1, -2, -8, -40, -64, math.MinInt, api.MaxFrac + 1, 62, 63, 64, 65, api.MaxDyad, api.MaxShift, math.MaxInt}
	bases   = []int64{0, 1, 2, 7, 100, 1<<20 + 1, 3037000500, 1 << 62, most - 1, most}
	warms   = []int{0, 1, 2, 4, 7, 100, 999999, last}
	counts  = []int{1, 2, 3, 7, 100, 4999, 5000, 999999, last}
	noCount = []int{0, -1, -2, -7, last + 1, last + 2, 1 << 32, 1<<32 + 1, math.MinInt, math.MinInt + 1, math.MaxInt}
	noSteps = noCount
)

func rated(t *testing.T, s api.Sched, step, f int) int64 {
	t.Helper()
	n, e := sched.Rate(s, step, f)
	if e != api.OK {
		t.Fatalf("Rate of %+v at %d, f %d: %d", s, step, f, e)
	}
	return n
}

// drops are right ones, with that base, those at the edges of Every and Rate.
func drops(base int64, f int) []api.Sched {
	var all []api.Sched
	one := int64(1) << f
	for _, warm := range warms {
		for _, every := range counts {
			for _, rate := range []int64{0, 1, one / 2, one/2 + one/3, one - 1, one} {
				all = append(all, api.Sched{Kind: api.Drop, Base: base, Warm: warm, Every: every, Rate: rate})
			}
		}
	}
	return all
}

// polys are right ones, with that base, those at the edges of Last, Power and End.
func polys(base int64) []api.Sched {
	var all []api.Sched
	for _, warm := range warms {
		for _, end := range counts {
			for power := 1; power <= 8; power++ {
				for _, low := range []int64{0, 1, base / 3, base - 1, base} {
					if 0 <= low && low <= base {
						all = append(all, api.Sched{Kind: api.Poly, Base: base, Warm: warm, Last: end, Power: power, End: low})
					}
				}
			}
		}
	}
	return all
}

// schedules are right ones of all kinds, with each f that is taken; Poly's do not hang on it, and are told once.
func schedules(f int) []api.Sched {
	var all []api.Sched
	for _, base := range bases {
		for _, warm := range append([]int{3, 5, 10, 999, 5000, 500000}, warms...) {
			for _, kind := range []int{api.Const, api.Root} {
				all = append(all, api.Sched{Kind: kind, Base: base, Warm: warm})
			}
		}
		all = append(all, drops(base, f)...)
		if f == fracs[0] {
			all = append(all, polys(base)...)
		}
	}
	return all
}

// steps are those at a schedule's edges: its ends, where it is warm, where it drops, where it drops no more, and where it ends; rising.
func steps(s api.Sched) []int {
	all := []int{1, 2, 3, 10, 317, 500000, last - 1, last, s.Warm / 2}
	for d := -1; d <= 1; d++ {
		all = append(all, s.Warm+d, s.Warm+2+d)
		if s.Kind == api.Poly {
			all = append(all, s.Last+d, s.Last/2+d)
		}
		if s.Kind == api.Drop {
			for _, k := range []int{1, 2, 3, 199, 200, 201} {
				all = append(all, s.Warm+k*s.Every+d)
			}
		}
	}
	all = slices.DeleteFunc(all, func(t int) bool { return t < 1 || t > last })
	slices.Sort(all)
	return slices.Compact(all)
}

// each goes through all schedules.
func each(do func(s api.Sched, f int)) {
	for _, f := range []int{0, 8, api.MaxFrac} {
		for _, s := range schedules(f) {
			do(s, f)
		}
	}
}

// near is the nearest to top by low, which is above 0, of two as near the even one.
func near(top, low *big.Int) *big.Int {
	twice := new(big.Int).Lsh(low, 1)
	raised := new(big.Int).Add(new(big.Int).Lsh(top, 1), low)
	n, left := new(big.Int).DivMod(raised, twice, new(big.Int))
	if left.Sign() == 0 && n.Bit(0) == 1 {
		n.Sub(n, big.NewInt(1))
	}
	return n
}

func times(a, b int64) *big.Int {
	return new(big.Int).Mul(big.NewInt(a), big.NewInt(b))
}

func power(n, k int) *big.Int {
	return new(big.Int).Exp(big.NewInt(int64(n)), big.NewInt(int64(k)), nil)
}

// isRooted: is n the greatest whose square times t is at most what the Words say?
func isRooted(s api.Sched, t int, n int64) bool {
	whole := new(big.Int).Mul(times(s.Base, s.Base), big.NewInt(int64(max(s.Warm, 1))))
	reaches := func(n *big.Int) bool {
		square := new(big.Int).Mul(n, n)
		return square.Mul(square, big.NewInt(int64(t))).Cmp(whole) <= 0
	}
	up := new(big.Int).Add(big.NewInt(n), big.NewInt(1))
	return n >= 0 && reaches(big.NewInt(n)) && !reaches(up)
}

// dropped is Base, dropped one time after the other.
func dropped(s api.Sched, t, f int) *big.Int {
	n := big.NewInt(s.Base)
	one := new(big.Int).Lsh(big.NewInt(1), uint(f))
	count := 0
	for at := s.Warm + s.Every; at <= t && count < 200; at += s.Every {
		n = near(n.Mul(n, big.NewInt(s.Rate)), one)
		count++
	}
	return n
}

func lessened(s api.Sched, t int) *big.Int {
	if t >= s.Last {
		return big.NewInt(s.End)
	}
	top := new(big.Int).Sub(big.NewInt(s.Base), big.NewInt(s.End))
	top.Mul(top, power(s.Last-t, s.Power))
	n := near(top, power(s.Last, s.Power))
	return n.Add(n, big.NewInt(s.End))
}

// isRate: is n what the Words say of step t?
func isRate(s api.Sched, t, f int, n int64) bool {
	got := big.NewInt(n)
	if t <= s.Warm {
		return got.Cmp(near(times(s.Base, int64(t)), big.NewInt(int64(s.Warm)))) == 0
	}
	switch s.Kind {
	case api.Root:
		return isRooted(s, t, n)
	case api.Drop:
		return got.Cmp(dropped(s, t, f)) == 0
	case api.Poly:
		return got.Cmp(lessened(s, t)) == 0
	}
	return n == s.Base
}

// P15.1, O1: what is right at its edges, with every f that is there.
func TestRight(t *testing.T) {
	for _, f := range fracs {
		for _, s := range schedules(f) {
			if !sched.Right(s, f) {
				t.Fatalf("Right: no, of %+v with f %d", s, f)
			}
		}
	}
	if !sched.Right(api.Sched{}, 0) {
		t.Error("Right: no, of Const without any base")
	}
}

// P15.1, O1: parts that a kind does not have may be anything.
func TestRightOtherParts(t *testing.T) {
	for _, kind := range kinds {
		for _, n := range []int{math.MinInt, -1, 0, 9, last + 1, math.MaxInt} {
			s := api.Sched{Kind: kind, Base: 100, Warm: 3, Every: n, Rate: int64(n), Last: n, Power: n, End: int64(n)}
			switch kind {
			case api.Drop:
				s.Every, s.Rate = 5, 7
			case api.Poly:
				s.Last, s.Power, s.End = 6, 2, 9
			}
			if !sched.Right(s, 8) {
				t.Errorf("Right: no, of %+v", s)
			}
			for _, step := range []int{1, 3, 4, 5, 6, 7, 8, 9, last} {
				if got := rated(t, s, step, 8); !isRate(s, step, 8, got) {
					t.Errorf("Rate of %+v at %d: %d", s, step, got)
				}
			}
		}
	}
}

// faults are schedules of which one part is wrong, with that f.
func faults(f int) []api.Sched {
	var all []api.Sched
	one := int64(1) << f
	for _, kind := range kinds {
		right := api.Sched{Kind: kind, Base: 100, Warm: 3, Every: 5, Rate: one, Last: 6, Power: 2, End: 9}
		put := func(change func(s *api.Sched)) {
			s := right
			change(&s)
			all = append(all, s)
		}
		for _, k := range noKinds {
			put(func(s *api.Sched) { s.Kind = k })
		}
		for _, n := range []int64{-1, -2, -100, least, least + 1} {
			put(func(s *api.Sched) { s.Base, s.End = n, 0 })
			put(func(s *api.Sched) { s.Base, s.End = n, n })
		}
		for _, n := range noCount {
			if n != 0 {
				put(func(s *api.Sched) { s.Warm = n })
			}
			if kind == api.Drop {
				put(func(s *api.Sched) { s.Every = n })
			}
			if kind == api.Poly {
				put(func(s *api.Sched) { s.Last = n })
			}
		}
		if kind == api.Drop {
			for _, n := range []int64{-1, -2, -one, least, one + 1, one + 2, 2 * one, 1<<41 + 1, most} {
				put(func(s *api.Sched) { s.Rate = n })
			}
		}
		if kind == api.Poly {
			for _, n := range []int{0, -1, -2, 9, 10, api.MaxRoot, 1<<32 + 1, math.MinInt, math.MaxInt} {
				put(func(s *api.Sched) { s.Power = n })
			}
			for _, n := range []int64{-1, -2, -100, 101, 102, least, most} {
				put(func(s *api.Sched) { s.End = n })
			}
		}
	}
	return all
}

// P15.1, O1: what is not right, a fault at a time, has no rates.
func TestNotRight(t *testing.T) {
	for _, f := range fracs {
		for _, s := range faults(f) {
			if sched.Right(s, f) {
				t.Errorf("Right: yes, of %+v with f %d", s, f)
			}
			for _, step := range []int{1, 2, 3, 4, 5, 6, 8, last, 0, -1, last + 1} {
				if n, e := sched.Rate(s, step, f); n != 0 || e != api.ErrArg {
					t.Errorf("Rate of %+v at %d, f %d: %d %d", s, step, f, n, e)
				}
			}
		}
	}
}

// P15.1, O1: where there is no such f, nothing is right.
func TestNoFrac(t *testing.T) {
	for _, f := range noFracs {
		for _, s := range schedules(0) {
			if s.Warm > 4 || s.Every > 7 || s.Last > 7 {
				continue
			}
			if sched.Right(s, f) {
				t.Fatalf("Right: yes, of %+v with f %d", s, f)
			}
			for _, step := range []int{1, 2, 5, last} {
				if n, e := sched.Rate(s, step, f); n != 0 || e != api.ErrArg {
					t.Fatalf("Rate of %+v at %d, f %d: %d %d", s, step, f, n, e)
				}
			}
		}
	}
}

// P15.1, O1: there are steps from 1 to 1000000.
func TestNoStep(t *testing.T) {
	for _, s := range schedules(0) {
		for _, step := range noSteps {
			if n, e := sched.Rate(s, step, 0); n != 0 || e != api.ErrArg {
				t.Fatalf("Rate of %+v at %d: %d %d", s, step, n, e)
			}
		}
	}
}

// P15.1, O1: the chapter's example, and rates reckoned by hand.
func TestRateSingle(t *testing.T) {
	type asked struct {
		t    int
		want int64
	}
	for _, x := range []struct {
		s    api.Sched
		f    int
		asks []asked
	}{
		{api.Sched{Kind: api.Root, Base: 100, Warm: 4}, 0, []asked{{16, 50}, {1, 25}, {2, 50}, {3, 75}, {4, 100}, {5, 89}, {6, 81}, {400, 10}, {40000, 1}, {40001, 0}, {last, 0}}},
		{api.Sched{Kind: api.Root, Base: 100}, 8, []asked{{1, 100}, {2, 70}, {3, 57}, {4, 50}, {9, 33}, {10000, 1}, {10001, 0}}},
		{api.Sched{Kind: api.Root, Base: 100, Warm: 1}, 40, []asked{{1, 100}, {2, 70}, {3, 57}, {4, 50}}},
		{api.Sched{Kind: api.Root, Base: most}, 0, []asked{{1, most}, {4, most / 2}, {last, most / 1000}}},
		{api.Sched{Kind: api.Const, Base: 100}, 0, []asked{{1, 100}, {2, 100}, {last, 100}}},
		{api.Sched{Kind: api.Const, Base: most, Warm: last}, 0, []asked{{1, 9223372036855}, {last / 2, 1 << 62}, {last - 1, 9223362813482738952}, {last, most}}},
		{api.Sched{Kind: api.Const}, 0, []asked{{1, 0}, {last, 0}}},
		{api.Sched{Kind: api.Const, Base: 1, Warm: 2}, 0, []asked{{1, 0}, {2, 1}, {3, 1}}},
		{api.Sched{Kind: api.Const, Base: 3, Warm: 2}, 0, []asked{{1, 2}, {2, 3}, {3, 3}}},
		{api.Sched{Kind: api.Const, Base: 5, Warm: 2}, 0, []asked{{1, 2}, {2, 5}}},
		{api.Sched{Kind: api.Const, Base: 10, Warm: 3}, 0, []asked{{1, 3}, {2, 7}, {3, 10}}},
		{api.Sched{Kind: api.Drop, Base: 1000, Rate: 128, Every: 10}, 8, []asked{{1, 1000}, {9, 1000}, {10, 500}, {19, 500}, {20, 250}, {30, 125}, {40, 62}, {50, 31}, {60, 16}, {70, 8}, {100, 1}, {109, 1}, {110, 0}, {last, 0}}},
		{api.Sched{Kind: api.Drop, Base: 1000, Rate: 128, Every: 10, Warm: 5}, 8, []asked{{1, 200}, {5, 1000}, {6, 1000}, {10, 1000}, {14, 1000}, {15, 500}, {24, 500}, {25, 250}}},
		{api.Sched{Kind: api.Drop, Base: 1000, Rate: 0, Every: 2}, 0, []asked{{1, 1000}, {2, 0}, {last, 0}}},
		{api.Sched{Kind: api.Drop, Base: most, Rate: 1 << 40, Every: 1}, 40, []asked{{1, most}, {200, most}, {last, most}}},
		{api.Sched{Kind: api.Drop, Base: 1000, Rate: 1, Every: last}, 1, []asked{{1, 1000}, {last - 1, 1000}, {last, 500}}},
		{api.Sched{Kind: api.Drop, Base: 1000, Rate: 1, Every: last, Warm: 1}, 1, []asked{{1, 1000}, {last - 1, 1000}, {last, 1000}}},
		{api.Sched{Kind: api.Poly, Base: 100, Last: 10, Power: 1}, 0, []asked{{1, 90}, {2, 80}, {9, 10}, {10, 0}, {11, 0}, {last, 0}}},
		{api.Sched{Kind: api.Poly, Base: 100, Last: 10, Power: 2}, 8, []asked{{1, 81}, {5, 25}, {7, 9}, {9, 1}, {10, 0}}},
		{api.Sched{Kind: api.Poly, Base: 256000000, Last: 2, Power: 8}, 0, []asked{{1, 1000000}, {2, 0}}},
		{api.Sched{Kind: api.Poly, Base: 100, Last: 10, Power: 1, End: 20}, 0, []asked{{1, 92}, {5, 60}, {9, 28}, {10, 20}, {last, 20}}},
		{api.Sched{Kind: api.Poly, Base: 100, Last: 10, Power: 1, End: 100}, 0, []asked{{1, 100}, {9, 100}, {10, 100}}},
		{api.Sched{Kind: api.Poly, Base: 1, Last: 2, Power: 1}, 0, []asked{{1, 0}, {2, 0}}},
		{api.Sched{Kind: api.Poly, Base: 3, Last: 2, Power: 1}, 0, []asked{{1, 2}, {2, 0}}},
		{api.Sched{Kind: api.Poly, Base: 5, Last: 2, Power: 1}, 0, []asked{{1, 2}}},
		{api.Sched{Kind: api.Poly, Base: 2, Last: 2, Power: 1, End: 1}, 0, []asked{{1, 1}, {2, 1}}}, // 1 and the nearest to a half, not the nearest to 1.5
		{api.Sched{Kind: api.Poly, Base: 4, Last: 2, Power: 1, End: 1}, 0, []asked{{1, 3}, {2, 1}}}, // 1 and the nearest to 1.5, not the nearest to 2.5
		{api.Sched{Kind: api.Poly, Base: 100, Last: 5, Power: 1, Warm: 10, End: 7}, 0, []asked{{4, 40}, {5, 50}, {6, 60}, {10, 100}, {11, 7}}},
		{api.Sched{Kind: api.Poly, Base: 100, Last: 10, Power: 1, Warm: 4, End: 0}, 0, []asked{{3, 75}, {4, 100}, {5, 50}, {6, 40}}},
		{api.Sched{Kind: api.Poly, Base: 100, Last: 1, Power: 1, End: 7}, 0, []asked{{1, 7}, {2, 7}}},
		{api.Sched{Kind: api.Poly, Base: most, Last: last, Power: 1, End: most - 2}, 40, []asked{{1, most}, {last / 2, most - 1}, {last - 1, most - 2}, {last, most - 2}}},
	} {
		for _, a := range x.asks {
			if n := rated(t, x.s, a.t, x.f); n != a.want {
				t.Errorf("Rate of %+v at %d, f %d: %d, not %d", x.s, a.t, x.f, n, a.want)
			}
		}
	}
}

// P15.1, O1: it drops 200 times, and then no more.
func TestRateMaxDrops(t *testing.T) {
	for _, every := range []int{1, 3, 4999} {
		for _, warm := range []int{0, 2, 100} {
			s := api.Sched{Kind: api.Drop, Base: most, Warm: warm, Every: every, Rate: 1<<40 - 1<<36}
			before := rated(t, s, warm+200*every-1, 40)
			n := rated(t, s, warm+200*every, 40)
			if before <= n || n <= 0 {
				t.Errorf("Rate of %+v: %d ahead of the last drop, then %d", s, before, n)
			}
			for _, step := range []int{warm + 200*every + 1, warm + 201*every - 1, warm + 201*every, warm + 202*every, last} {
				if step <= last && rated(t, s, step, 40) != n {
					t.Errorf("Rate of %+v at %d: not %d", s, step, n)
				}
			}
		}
	}
}

// P15.1, O1: rates are as the Words say, at the edges of all schedules.
func TestRate(t *testing.T) {
	each(func(s api.Sched, f int) {
		for _, step := range steps(s) {
			if n := rated(t, s, step, f); !isRate(s, step, f, n) {
				t.Fatalf("Rate of %+v at %d, f %d: %d", s, step, f, n)
			}
		}
	})
}

// runs are schedules of which one step after the other is taken, up to one behind all that they do.
func runs() []api.Sched {
	var all []api.Sched
	for _, base := range []int64{0, 1, 100, 1<<30 + 7, most} {
		for _, warm := range []int{0, 1, 2, 9, 60} {
			all = append(all, api.Sched{Kind: api.Const, Base: base, Warm: warm}, api.Sched{Kind: api.Root, Base: base, Warm: warm})
			for _, every := range []int{1, 2, 7} {
				for _, rate := range []int64{0, 1, 128, 230, 255, 256} {
					all = append(all, api.Sched{Kind: api.Drop, Base: base, Warm: warm, Every: every, Rate: rate})
				}
			}
			for _, end := range []int{1, 2, 9, 61, 200} {
				for _, k := range []int{1, 2, 3, 8} {
					for _, low := range []int64{0, base / 2, base} {
						all = append(all, api.Sched{Kind: api.Poly, Base: base, Warm: warm, Last: end, Power: k, End: low})
					}
				}
			}
		}
	}
	return all
}

// P15.1, O1: rates are as the Words say, step by step.
func TestRateStepByStep(t *testing.T) {
	for _, s := range runs() {
		for step := 1; step <= 300; step++ {
			if n := rated(t, s, step, 8); !isRate(s, step, 8, n) {
				t.Fatalf("Rate of %+v at %d: %d", s, step, n)
			}
		}
	}
}

// eachRow goes through the rates of all schedules, in rows of steps that rise.
func eachRow(t *testing.T, do func(s api.Sched, at []int, rates []int64)) {
	t.Helper()
	row := func(s api.Sched, f int, at []int) {
		var rates []int64
		for _, step := range at {
			rates = append(rates, rated(t, s, step, f))
		}
		do(s, at, rates)
	}
	each(func(s api.Sched, f int) { row(s, f, steps(s)) })
	var all []int
	for step := 1; step <= 300; step++ {
		all = append(all, step)
	}
	for _, s := range runs() {
		row(s, 8, all)
	}
}

// P15.2: while it warms it does not fall, and ends as Base.
func TestWarm(t *testing.T) {
	eachRow(t, func(s api.Sched, at []int, rates []int64) {
		before := int64(0)
		for i, n := range rates {
			if at[i] <= s.Warm && n < before {
				t.Fatalf("%+v falls while it warms, at %d: %d, then %d", s, at[i], before, n)
			}
			if at[i] == s.Warm && n != s.Base {
				t.Fatalf("%+v is warm at %d", s, n)
			}
			before = n
		}
		if s.Warm > 0 && !slices.Contains(at, s.Warm) {
			t.Fatalf("%+v: its last warm step is not asked for", s)
		}
	})
}

// P15.3: behind that it does not rise.
func TestFalls(t *testing.T) {
	eachRow(t, func(s api.Sched, at []int, rates []int64) {
		before := s.Base
		for i, n := range rates {
			if at[i] <= s.Warm {
				continue
			}
			if n > before {
				t.Fatalf("%+v rises at %d: %d, then %d", s, at[i], before, n)
			}
			before = n
		}
	})
}

// P15.4: it is never below 0, nor above Base; of Poly, behind Warm, never below End.
func TestBounds(t *testing.T) {
	eachRow(t, func(s api.Sched, at []int, rates []int64) {
		for i, n := range rates {
			if n < 0 || n > s.Base {
				t.Fatalf("%+v at %d: %d", s, at[i], n)
			}
			if s.Kind == api.Poly && at[i] > s.Warm && n < s.End {
				t.Fatalf("%+v at %d: %d, below its end", s, at[i], n)
			}
		}
	})
}

// All promises, at schedules of mixed parts: f, base and all counts anywhere between their ends.
func TestMixed(t *testing.T) {
	x := uint64(88172645463325252)
	next := func(n int64) int64 { // from 0 on, below n
		x ^= x << 13
		x ^= x >> 7
		x ^= x << 17
		return int64(x>>1) % n
	}
	for range 20000 {
		f := int(next(api.MaxFrac + 1))
		s := api.Sched{Kind: int(next(4)), Base: next(most) >> next(63), Warm: int(next(last+1) >> next(21))}
		s.Every, s.Rate = 1+int(next(last)>>next(20)), next(1<<f+1)
		s.Last, s.Power = 1+int(next(last)>>next(20)), 1+int(next(8))
		s.End = next(s.Base + 1)
		step := 1 + int(next(last)>>next(20))
		n := rated(t, s, step, f)
		if !sched.Right(s, f) || !isRate(s, step, f, n) || n > s.Base {
			t.Fatalf("Rate of %+v at %d, f %d: %d", s, step, f, n)
		}
		if step < last && step < s.Warm && rated(t, s, step+1, f) < n {
			t.Fatalf("%+v falls at %d, f %d", s, step, f)
		}
		if step < last && step >= s.Warm && rated(t, s, step+1, f) > n {
			t.Fatalf("%+v rises at %d, f %d", s, step, f)
		}
	}
}
