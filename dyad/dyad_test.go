package dyad_test

import (
	"math"
	"math/big"
	"slices"
	"testing"

	"ratchet/api"
	"ratchet/dyad"
)

const (
	full = 1<<64 - 1
	half = 1 << 63
)

// A rounding is one of the three calls that lay a rational on a grid.
type rounding struct {
	name  string
	round func(api.Rat, int) (api.Zed, api.Errno)
	want  func(*big.Rat, int) *big.Int
}

func roundings() []rounding {
	return []rounding{
		{"Floor", dyad.Floor, floor},
		{"Ceil", dyad.Ceil, ceil},
		{"Near", dyad.Near, near},
	}
}

// grids are ks that are there, at both ends and where a limb begins.
func grids() []int {
	return []int{0, 1, 2, 3, 5, 31, 62, 63, 64, 65, 127, 128, 129, 1000, 1999, api.MaxDyad}
}

// noGrids are ks that are not there; some of them would be shifts.
func noGrids() []int {
	return []int{-1, -2, -64, math.MinInt, api.MaxDyad + 1, 2048, 4096, api.MaxShift, api.MaxShift + 1, math.MaxInt}
}

// floor is reckoned by math/big: its Div goes down whenever the divisor is above nought.
func floor(x *big.Rat, k int) *big.Int {
	top := new(big.Int).Lsh(x.Num(), uint(k))
	return top.Div(top, x.Denom())
}

func ceil(x *big.Rat, k int) *big.Int {
	n := floor(new(big.Rat).Neg(x), k)
	return n.Neg(n)
}

// near goes half a step up and then down; of two as near that is the upper one.
func near(x *big.Rat, k int) *big.Int {
	raised := new(big.Rat).Add(x, back(big.NewInt(1), k+1))
	n := floor(raised, k)
	if n.Bit(0) == 1 && back(n, k).Cmp(raised) == 0 {
		n.Sub(n, big.NewInt(1))
	}
	return n
}

func back(n *big.Int, k int) *big.Rat {
	return new(big.Rat).SetFrac(n, new(big.Int).Lsh(big.NewInt(1), uint(k)))
}

// over is p by q, reduced by math/big.
func over(p, q int64) api.Rat {
	return ratOf(big.NewRat(p, q))
}

// small are all right rationals with small P and Q, P up to three times as great.
func small(most int64) []api.Rat {
	all := []api.Rat{over(0, 1)}
	for q := int64(1); q <= most; q++ {
		for p := int64(1); p <= 3*most; p++ {
			if new(big.Int).GCD(nil, nil, big.NewInt(p), big.NewInt(q)).Int64() == 1 {
				all = append(all, over(p, q), over(-p, q))
			}
		}
	}
	return all
}

// limbs are numbers whose limbs lie at an end or at the middle.
func limbs() []api.Nat {
	return []api.Nat{
		{1}, {2}, {3}, {half - 1}, {half}, {half + 1}, {full - 1}, {full},
		{0, 1}, {1, 1}, {full, 1}, {0, half}, {full, full}, {1, full},
		{0, 0, 1}, {1, 0, 1}, {0, full, 3}, {full, full, full},
	}
}

// edges are the rationals of which both parts are such numbers.
func edges() []api.Rat {
	var all []api.Rat
	for _, p := range limbs() {
		for _, q := range limbs() {
			x := new(big.Rat).SetFrac(bigNat(p), bigNat(q))
			all = append(all, ratOf(x), ratOf(x.Neg(x)))
		}
	}
	return all
}

// middles lie on the grid of k, at the middle between two of its numbers, or as little as a grid far finer allows beside these.
func middles(k int) []api.Rat {
	var all []api.Rat
	beside := back(big.NewInt(1), k+70)
	for _, n := range []int64{-9, -8, -7, -4, -3, -2, -1, 0, 1, 2, 3, 4, 7, 8, 9, math.MaxInt64, math.MinInt64} {
		x := back(big.NewInt(n), k+1)
		all = append(all, ratOf(x), ratOf(new(big.Rat).Add(x, beside)), ratOf(new(big.Rat).Sub(x, beside)))
	}
	return all
}

// long are greater rationals of mixed limbs, the same in every run.
func long() []api.Rat {
	var all []api.Rat
	x := uint64(88172645463325252)
	mixed := func(n int) *big.Int {
		a := make(api.Nat, n)
		for i := range a {
			x ^= x << 13
			x ^= x >> 7
			x ^= x << 17
			a[i] = x
		}
		a[n-1] |= 1
		return bigNat(a)
	}
	for _, n := range []int{1, 2, 5, 33, 40} {
		for _, m := range []int{1, 2, 4, 32, 41} {
			p, q := mixed(n), mixed(m)
			all = append(all, ratOf(new(big.Rat).SetFrac(p, q)), ratOf(new(big.Rat).SetFrac(p.Neg(p), q)))
		}
	}
	return all
}

func everything() []api.Rat {
	return slices.Concat(small(6), middles(0), middles(3), middles(64), middles(api.MaxDyad), edges(), long())
}

// multiples are integers around nought, at the ends of limbs, and longer ones, both sides of each.
func multiples() []api.Zed {
	all := []api.Zed{{}}
	for n := uint64(1); n <= 20; n++ {
		all = append(all, api.Zed{N: api.Nat{n}}, api.Zed{Neg: true, N: api.Nat{n}})
	}
	for _, n := range limbs() {
		all = append(all, api.Zed{N: n}, api.Zed{Neg: true, N: n})
	}
	for _, a := range long() {
		all = append(all, a.P)
	}
	return all
}

func bigNat(a api.Nat) *big.Int {
	n := new(big.Int)
	for _, x := range slices.Backward(a) {
		n.Lsh(n, 64).Or(n, new(big.Int).SetUint64(x))
	}
	return n
}

func natOf(n *big.Int) api.Nat {
	var a api.Nat
	low := new(big.Int).SetUint64(full)
	for n = new(big.Int).Abs(n); n.Sign() > 0; n.Rsh(n, 64) {
		a = append(a, new(big.Int).And(n, low).Uint64())
	}
	return a
}

func bigZed(a api.Zed) *big.Int {
	n := bigNat(a.N)
	if a.Neg {
		n.Neg(n)
	}
	return n
}

func bigRat(a api.Rat) *big.Rat {
	return new(big.Rat).SetFrac(bigZed(a.P), bigNat(a.Q))
}

func zedOf(n *big.Int) api.Zed {
	return api.Zed{Neg: n.Sign() < 0, N: natOf(n)}
}

func ratOf(x *big.Rat) api.Rat {
	return api.Rat{P: zedOf(x.Num()), Q: natOf(x.Denom())}
}

func same(a, b api.Zed) bool {
	return a.Neg == b.Neg && slices.Equal(a.N, b.N)
}

func sameRat(a, b api.Rat) bool {
	return same(a.P, b.P) && slices.Equal(a.Q, b.Q)
}

// rounded is what a call tells of a grid that is there.
func rounded(t *testing.T, r rounding, a api.Rat, k int) api.Zed {
	t.Helper()
	n, e := r.round(a, k)
	if e != api.OK {
		t.Fatalf("%s of %v, k %d: error %d", r.name, a, k, e)
	}
	return n
}

// P6.1, F1: what is told of single numbers, with the chapter's example.
func TestSingles(t *testing.T) {
	for _, x := range []struct {
		p, q              int64
		k                 int
		floor, ceil, near int64
	}{
		{5, 4, 1, 2, 3, 2}, // the chapter's
		{0, 1, 0, 0, 0, 0},
		{0, 1, 7, 0, 0, 0},
		{1, 2, 0, 0, 1, 0},
		{-1, 2, 0, -1, 0, 0},
		{3, 2, 0, 1, 2, 2},
		{-3, 2, 0, -2, -1, -2},
		{5, 2, 0, 2, 3, 2},
		{-5, 2, 0, -3, -2, -2},
		{-5, 4, 1, -3, -2, -2},
		{7, 4, 1, 3, 4, 4},
		{-7, 4, 1, -4, -3, -4},
		{1, 3, 0, 0, 1, 0},
		{-1, 3, 0, -1, 0, 0},
		{2, 3, 0, 0, 1, 1},
		{-2, 3, 0, -1, 0, -1},
		{1, 3, 3, 2, 3, 3},
		{-1, 3, 3, -3, -2, -3},
		{3, 8, 3, 3, 3, 3},
		{-3, 8, 3, -3, -3, -3},
		{3, 8, 2, 1, 2, 2},
		{1, 8, 2, 0, 1, 0},
		{9, 1, 4, 144, 144, 144},
		{-9, 1, 4, -144, -144, -144},
		{math.MaxInt64, 2, 0, math.MaxInt64 / 2, 1 << 62, 1 << 62},
		{math.MinInt64, 1, 0, math.MinInt64, math.MinInt64, math.MinInt64},
	} {
		for i, r := range roundings() {
			want := zedOf(big.NewInt([]int64{x.floor, x.ceil, x.near}[i]))
			if n := rounded(t, r, over(x.p, x.q), x.k); !same(n, want) {
				t.Errorf("%s of %d by %d, k %d: %v, not %v", r.name, x.p, x.q, x.k, n, want)
			}
		}
	}
}

// P6.1, F1: Floor, Ceil and Near against math/big, on every grid at an end.
func TestRoundings(t *testing.T) {
	for _, r := range roundings() {
		for _, k := range grids() {
			for _, a := range slices.Concat(everything(), middles(k)) {
				want := zedOf(r.want(bigRat(a), k))
				if n := rounded(t, r, a, k); !same(n, want) {
					t.Fatalf("%s of %v, k %d: %v, not %v", r.name, a, k, n, want)
				}
			}
		}
	}
}

// P6.1, F1: on each grid that is there, the first and the last one too, a half of its step lies between.
func TestEveryGrid(t *testing.T) {
	for k := range api.MaxDyad + 1 {
		a := ratOf(back(big.NewInt(-3), k+1))
		for i, r := range roundings() {
			want := zedOf(big.NewInt([]int64{-2, -1, -2}[i]))
			if n := rounded(t, r, a, k); !same(n, want) {
				t.Fatalf("%s of 3 halves of a step below nought, k %d: %v", r.name, k, n)
			}
		}
	}
}

// P6.1, F1: Back, reduced.
func TestBack(t *testing.T) {
	for _, x := range []struct {
		n    int64
		k    int
		p, q int64
	}{{0, 0, 0, 1}, {0, 9, 0, 1}, {5, 0, 5, 1}, {2, 1, 1, 1}, {3, 1, 3, 2}, {-6, 2, -3, 2}, {1, 62, 1, 1 << 62}, {-1 << 63, 60, -8, 1}} {
		a, e := dyad.Back(zedOf(big.NewInt(x.n)), x.k)
		if e != api.OK || !sameRat(a, over(x.p, x.q)) {
			t.Errorf("Back of %d, k %d: %v %d", x.n, x.k, a, e)
		}
	}
	for _, n := range multiples() {
		for _, k := range grids() {
			a, e := dyad.Back(n, k)
			if want := ratOf(back(bigZed(n), k)); e != api.OK || !sameRat(a, want) {
				t.Fatalf("Back of %v, k %d: %v %d, not %v", n, k, a, e, want)
			}
		}
	}
}

// P6.1, F1: ErrArg, and none, if there is no such k.
func TestNoGrid(t *testing.T) {
	for _, k := range noGrids() {
		for _, a := range []api.Rat{over(0, 1), over(1, 1), over(-5, 4), long()[0]} {
			for _, r := range roundings() {
				if n, e := r.round(a, k); e != api.ErrArg || !same(n, api.Zed{}) {
					t.Errorf("%s of %v, k %d: %v %d", r.name, a, k, n, e)
				}
			}
			if x, e := dyad.Back(a.P, k); e != api.ErrArg || !sameRat(x, api.Rat{}) {
				t.Errorf("Back of %v, k %d: %v %d", a.P, k, x, e)
			}
		}
	}
}

// number is that of a multiple, as Back tells it.
func number(t *testing.T, n api.Zed, k int) *big.Rat {
	t.Helper()
	a, e := dyad.Back(n, k)
	if e != api.OK {
		t.Fatalf("Back of %v, k %d: error %d", n, k, e)
	}
	return bigRat(a)
}

// P6.2: a lies between Floor and Ceil, which are the same or side by side; Near is one of these, at most half a step away, and even in the middle.
func TestBetween(t *testing.T) {
	all := roundings()
	for _, k := range grids() {
		halfStep := back(big.NewInt(1), k+1)
		for _, a := range slices.Concat(everything(), middles(k)) {
			x := bigRat(a)
			low, high, mid := rounded(t, all[0], a, k), rounded(t, all[1], a, k), rounded(t, all[2], a, k)
			if number(t, low, k).Cmp(x) > 0 || number(t, high, k).Cmp(x) < 0 {
				t.Fatalf("%v, k %d: not between %v and %v", a, k, low, high)
			}
			onGrid := number(t, low, k).Cmp(x) == 0
			gap := new(big.Int).Sub(bigZed(high), bigZed(low))
			if onGrid && gap.Sign() != 0 || !onGrid && gap.Cmp(big.NewInt(1)) != 0 {
				t.Fatalf("%v, k %d: %v and %v are %v apart", a, k, low, high, gap)
			}
			away := new(big.Rat).Sub(number(t, mid, k), x)
			far := away.Abs(away).Cmp(halfStep)
			if !same(mid, low) && !same(mid, high) || far > 0 || far == 0 && bigZed(mid).Bit(0) == 1 {
				t.Fatalf("%v, k %d: Near %v, of %v and %v", a, k, mid, low, high)
			}
		}
	}
}

// P6.3: all three keep the order.
func TestOrder(t *testing.T) {
	for _, k := range grids() {
		all := slices.Concat(everything(), middles(k))
		slices.SortFunc(all, func(a, b api.Rat) int { return bigRat(a).Cmp(bigRat(b)) })
		for _, r := range roundings() {
			ahead := rounded(t, r, all[0], k)
			for i, a := range all[1:] {
				n := rounded(t, r, a, k)
				if bigZed(ahead).Cmp(bigZed(n)) > 0 {
					t.Fatalf("%s, k %d: of %v %v, of %v %v", r.name, k, all[i], ahead, a, n)
				}
				ahead = n
			}
		}
	}
}

// P6.3: what is Back is rounded to itself.
func TestBackIsItself(t *testing.T) {
	for _, n := range multiples() {
		for _, k := range grids() {
			a, _ := dyad.Back(n, k)
			for _, r := range roundings() {
				if m := rounded(t, r, a, k); !same(m, n) {
					t.Fatalf("%s of what is Back of %v, k %d: %v", r.name, n, k, m)
				}
			}
		}
	}
}

// R4: neither what is handed in nor the room behind it is changed, and an answer is memory of its own.
func TestKeepsArguments(t *testing.T) {
	first := api.Nat{3, 5, 77, 78}
	top, under := slices.Clone(first), slices.Clone(first)
	args := []api.Rat{
		{P: api.Zed{N: top[:1]}, Q: api.Nat{1, 9, 9}[:1]},
		{P: api.Zed{N: top[:2]}, Q: api.Nat{7}},
		{P: api.Zed{Neg: true, N: top[1:2]}, Q: under[:1]},
		{P: api.Zed{Neg: true, N: api.Nat{1}}, Q: under[:2]},
		{P: api.Zed{N: top[:0]}, Q: api.Nat{1}},
	}
	var answers []api.Nat
	for _, a := range args {
		for _, k := range []int{0, 1, 64, 100} {
			for _, r := range roundings() {
				answers = append(answers, rounded(t, r, a, k).N)
			}
			x, _ := dyad.Back(a.P, k)
			answers = append(answers, x.P.N, x.Q)
		}
	}
	copies := make([]api.Nat, len(answers))
	for i, x := range answers {
		copies[i] = slices.Clone(x)
	}
	for i, x := range answers { // whoever writes into one answer, all its room, changes no other one
		if !slices.Equal(x, copies[i]) {
			t.Errorf("answer %d shares memory with one ahead of it", i)
		}
		x = x[:cap(x)]
		for j := range x {
			x[j] = 99
		}
	}
	if !slices.Equal(top, first) || !slices.Equal(under, first) {
		t.Errorf("changed: %v, %v", top, under)
	}
	if spare := args[0].Q[:3]; !slices.Equal(spare, api.Nat{1, 9, 9}) {
		t.Errorf("changed: %v", spare)
	}
}

// No call panics, and all end, even at rationals that are not right, the zero value among them.
func TestWrongRationals(t *testing.T) {
	nats := []api.Nat{nil, {}, {0}, {0, 0}, {2}, {1, 0}, {0, 6, 0}, {full, 0, 0}, make(api.Nat, 100)}
	for _, p := range nats {
		for _, neg := range []bool{false, true} {
			top := api.Zed{Neg: neg, N: p}
			for _, k := range slices.Concat(grids(), noGrids()) {
				dyad.Back(top, k)
				for _, q := range nats {
					for _, r := range roundings() {
						r.round(api.Rat{P: top, Q: q}, k)
					}
				}
			}
		}
	}
}
