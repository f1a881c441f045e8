package ival_test

import (
	"math"
	"math/big"
	"slices"
	"testing"

	"ratchet/api"
	"ratchet/ival"
)

const (
	full = 1<<64 - 1
	half = 1 << 63
)

// most is the greatest k that is there.
const most = 1000

// grids are ks that are there, at both ends and where a limb begins.
func grids() []int {
	return []int{0, 1, 2, 3, 31, 32, 33, 63, 64, 65, 500, most - 1, most}
}

// noGrids are ks that are not there; some of them would be grids of layer 6, and twice some goes round to one.
func noGrids() []int {
	return []int{-1, -2, -64, math.MinInt, math.MinInt + 1, most + 1, 1024, 1999, api.MaxDyad, api.MaxDyad + 1, math.MaxInt / 2, math.MaxInt/2 + 1, math.MaxInt}
}

func bigNat(a api.Nat) *big.Int {
	n := new(big.Int)
	for _, x := range slices.Backward(a) {
		n.Lsh(n, 64).Or(n, new(big.Int).SetUint64(x))
	}
	return n
}

func natOf(n *big.Int) api.Nat {
	var a api.Nat
	low := new(big.Int).SetUint64(full)
	for n = new(big.Int).Abs(n); n.Sign() > 0; n.Rsh(n, 64) {
		a = append(a, new(big.Int).And(n, low).Uint64())
	}
	return a
}

func bigRat(a api.Rat) *big.Rat {
	top := bigNat(a.P.N)
	if a.P.Neg {
		top.Neg(top)
	}
	return new(big.Rat).SetFrac(top, bigNat(a.Q))
}

func ratOf(x *big.Rat) api.Rat {
	return api.Rat{P: api.Zed{Neg: x.Sign() < 0, N: natOf(x.Num())}, Q: natOf(x.Denom())}
}

func sameRat(a, b api.Rat) bool {
	return a.P.Neg == b.P.Neg && slices.Equal(a.P.N, b.P.N) && slices.Equal(a.Q, b.Q)
}

func same(a, b api.Span) bool {
	return sameRat(a.Lo, b.Lo) && sameRat(a.Hi, b.Hi)
}

// over is p by q, reduced by math/big.
func over(p, q int64) api.Rat {
	return ratOf(big.NewRat(p, q))
}

// whole is the interval between two whole numbers.
func whole(lo, hi int64) api.Span {
	return api.Span{Lo: over(lo, 1), Hi: over(hi, 1)}
}

func spanOf(lo, hi *big.Rat) api.Span {
	return api.Span{Lo: ratOf(lo), Hi: ratOf(hi)}
}

// back is n times 2 to the power of -k.
func back(n *big.Int, k int) *big.Rat {
	return new(big.Rat).SetFrac(n, new(big.Int).Lsh(big.NewInt(1), uint(k)))
}

// floor is reckoned by math/big: its Div goes down whenever the divisor is above nought.
func floor(x *big.Rat, k int) *big.Int {
	top := new(big.Int).Lsh(x.Num(), uint(k))
	return top.Div(top, x.Denom())
}

func ceil(x *big.Rat, k int) *big.Int {
	n := floor(new(big.Rat).Neg(x), k)
	return n.Neg(n)
}

// little are the rationals that laws are tried with, of which every pair of pairs is taken.
func little() []api.Rat {
	return sorted([]api.Rat{over(-3, 1), over(-1, 1), over(-2, 3), over(0, 1), over(1, 7), over(1, 1), over(5, 2), over(4, 1)})
}

// common are the rationals of which every interval is taken, and of these every pair.
func common() []api.Rat {
	return sorted([]api.Rat{
		over(0, 1), over(1, 1), over(-1, 1), over(1, 2), over(-1, 2), over(2, 1), over(-2, 1), over(3, 1), over(-3, 1),
		over(1, 3), over(-2, 7), over(9, 4), over(-25, 16), over(math.MaxInt64, 3), over(math.MinInt64, 1),
		over(1, math.MaxInt64), over(-5, math.MaxInt64), ratOf(mixed(3, 2)), ratOf(new(big.Rat).Neg(mixed(2, 3))),
	})
}

// many are those, and more: edges of limbs, squares, what lies beside squares, and long ones.
func many() []api.Rat {
	all := common()
	limbs := []api.Nat{{3}, {half - 1}, {half}, {full}, {0, 1}, {1, 1}, {0, half}, {full, full}, {0, 0, 1}}
	for _, p := range limbs {
		for _, q := range limbs {
			x := new(big.Rat).SetFrac(bigNat(p), bigNat(q))
			all = append(all, ratOf(x), ratOf(new(big.Rat).Neg(x)))
		}
	}
	for _, n := range []int64{1, 2, 3, 7, 1 << 31, 1<<32 - 1, 1 << 32, math.MaxInt64} {
		for _, d := range []int64{1, 2, 3, 1 << 32} {
			x := big.NewRat(n, d)
			x.Mul(x, x)
			for _, k := range []int{64, 2 * most, 2*most + 2} {
				beside := back(big.NewInt(1), k)
				all = append(all, ratOf(x), ratOf(new(big.Rat).Add(x, beside)), ratOf(new(big.Rat).Sub(x, beside)))
			}
		}
	}
	for _, n := range []int{1, 5, 20, 41} {
		for _, m := range []int{1, 4, 21, 40} {
			all = append(all, ratOf(mixed(n, m)), ratOf(new(big.Rat).Neg(mixed(m, n))))
		}
	}
	return sorted(all)
}

func sorted(all []api.Rat) []api.Rat {
	slices.SortFunc(all, func(a, b api.Rat) int { return bigRat(a).Cmp(bigRat(b)) })
	return slices.CompactFunc(all, sameRat)
}

// mixed is a rational of n by m limbs that are mixed, the same in every run.
func mixed(n, m int) *big.Rat {
	x := uint64(88172645463325252)
	next := func(n int) *big.Int {
		a := make(api.Nat, n)
		for i := range a {
			x ^= x << 13
			x ^= x >> 7
			x ^= x << 17
			a[i] = x
		}
		a[n-1] |= 1
		return bigNat(a)
	}
	return new(big.Rat).SetFrac(next(n), next(m))
}

// spans are all intervals between two of these, which are in order.
func spans(ends []api.Rat) []api.Span {
	var all []api.Span
	for i, lo := range ends {
		for _, hi := range ends[i:] {
			all = append(all, api.Span{Lo: lo, Hi: hi})
		}
	}
	return all
}

// single are intervals with ends that are far apart, side by side or the same, one each of many.
func single() []api.Span {
	ends := many()
	var all []api.Span
	for i, lo := range ends {
		all = append(all, api.Span{Lo: lo, Hi: lo}, api.Span{Lo: lo, Hi: ends[len(ends)-1]}, api.Span{Lo: lo, Hi: ends[min(i+1, len(ends)-1)]})
	}
	return all
}

// members are both ends of a, and some numbers between.
func members(a api.Span) []*big.Rat {
	lo, hi := bigRat(a.Lo), bigRat(a.Hi)
	all := []*big.Rat{lo, hi}
	for _, part := range []*big.Rat{big.NewRat(1, 1000), big.NewRat(1, 2), big.NewRat(2, 3)} {
		x := new(big.Rat).Sub(hi, lo)
		all = append(all, x.Add(x.Mul(x, part), lo))
	}
	return all
}

// inside says by math/big whether x is in a.
func inside(a api.Span, x *big.Rat) bool {
	return bigRat(a.Lo).Cmp(x) <= 0 && x.Cmp(bigRat(a.Hi)) <= 0
}

func isBelow(a api.Span) bool {
	return bigRat(a.Lo).Sign() < 0
}

// An operation is one of the three calls that take two intervals.
type operation struct {
	name  string
	spans func(a, b api.Span) (api.Span, api.Errno)
	rats  func(x, y *big.Rat) *big.Rat
	able  func(b api.Span) bool
}

func operations() []operation {
	always := func(api.Span) bool { return true }
	return []operation{
		{"Add", func(a, b api.Span) (api.Span, api.Errno) { return ival.Add(a, b), api.OK },
			func(x, y *big.Rat) *big.Rat { return new(big.Rat).Add(x, y) }, always},
		{"Mul", func(a, b api.Span) (api.Span, api.Errno) { return ival.Mul(a, b), api.OK },
			func(x, y *big.Rat) *big.Rat { return new(big.Rat).Mul(x, y) }, always},
		{"Div", ival.Div,
			func(x, y *big.Rat) *big.Rat { return new(big.Rat).Quo(x, y) },
			func(b api.Span) bool { return !inside(b, new(big.Rat)) }},
	}
}

// least is the least interval that has what comes of the ends; each of the operations goes one way between them.
func (o operation) least(a, b api.Span) api.Span {
	var all []*big.Rat
	for _, x := range []api.Rat{a.Lo, a.Hi} {
		for _, y := range []api.Rat{b.Lo, b.Hi} {
			all = append(all, o.rats(bigRat(x), bigRat(y)))
		}
	}
	slices.SortFunc(all, (*big.Rat).Cmp)
	return spanOf(all[0], all[3])
}

// told is what an operation tells of two intervals that it is able to take.
func (o operation) told(t *testing.T, a, b api.Span) api.Span {
	t.Helper()
	c, e := o.spans(a, b)
	if e != api.OK {
		t.Fatalf("%s of %v and %v: error %d", o.name, a, b, e)
	}
	return c
}

// roots is the least interval on the grid of k with all roots of a, by math/big.
func roots(a api.Span, k int) api.Span {
	low := new(big.Int).Sqrt(floor(bigRat(a.Lo), 2*k))
	square := ceil(bigRat(a.Hi), 2*k)
	high := new(big.Int).Sqrt(square)
	if new(big.Int).Mul(high, high).Cmp(square) < 0 {
		high.Add(high, big.NewInt(1))
	}
	return spanOf(back(low, k), back(high, k))
}

// P7.1, G1: an interval is right, if its ends are, and Lo is at most Hi.
func TestRight(t *testing.T) {
	for _, a := range slices.Concat(spans(common()), single()) {
		if !ival.Right(a) {
			t.Fatalf("%v is not right", a)
		}
		if turned := (api.Span{Lo: a.Hi, Hi: a.Lo}); ival.Right(turned) != sameRat(a.Lo, a.Hi) {
			t.Fatalf("%v: %t", turned, ival.Right(turned))
		}
	}
	one := over(1, 1)
	for _, x := range []api.Rat{
		{},
		{P: one.P},
		{Q: api.Nat{2}},
		{P: api.Zed{Neg: true}, Q: api.Nat{1}},
		{P: api.Zed{N: api.Nat{1}}, Q: api.Nat{0}},
		{P: api.Zed{N: api.Nat{1}}, Q: api.Nat{1, 0}},
		{P: api.Zed{N: api.Nat{1, 0}}, Q: api.Nat{1}},
		{P: api.Zed{N: api.Nat{2}}, Q: api.Nat{2}},
		{P: api.Zed{N: api.Nat{0}}, Q: api.Nat{1}},
	} {
		for _, a := range []api.Span{{Lo: x, Hi: x}, {Lo: x, Hi: over(9, 1)}, {Lo: over(-9, 1), Hi: x}} {
			if ival.Right(a) {
				t.Errorf("%v is right", a)
			}
		}
	}
}

// P7.1, G1: Of is from a to a.
func TestOf(t *testing.T) {
	for _, x := range many() {
		if a := ival.Of(x); !same(a, api.Span{Lo: x, Hi: x}) {
			t.Fatalf("Of %v: %v", x, a)
		}
	}
}

// P7.1, G1: Has says yes of both ends and of all between, and no of others.
func TestHas(t *testing.T) {
	for _, x := range []struct {
		a    api.Span
		p, q int64
		has  bool
	}{
		{whole(1, 3), 1, 1, true}, {whole(1, 3), 3, 1, true}, {whole(1, 3), 2, 1, true}, {whole(1, 3), 5, 3, true},
		{whole(1, 3), 0, 1, false}, {whole(1, 3), -2, 1, false}, {whole(1, 3), 4, 1, false}, {whole(1, 3), 999, 1000, false}, {whole(1, 3), 3001, 1000, false},
		{whole(0, 0), 0, 1, true}, {whole(0, 0), 1, 9, false}, {whole(-2, 0), -1, 3, true}, {whole(-2, 0), -3, 1, false}, {whole(-2, 0), 1, 1, false},
	} {
		if has := ival.Has(x.a, over(x.p, x.q)); has != x.has {
			t.Errorf("%v has %d by %d: %t", x.a, x.p, x.q, has)
		}
	}
	numbers := many()
	for _, a := range spans(common()) {
		for _, x := range numbers {
			if has := ival.Has(a, x); has != inside(a, bigRat(x)) {
				t.Fatalf("%v has %v: %t", a, x, has)
			}
		}
	}
}

// P7.1, G1: In says whether all of a is in b.
func TestIn(t *testing.T) {
	for _, x := range []struct {
		a, b api.Span
		in   bool
	}{
		{whole(1, 3), whole(1, 3), true}, {whole(1, 2), whole(1, 3), true}, {whole(2, 3), whole(1, 3), true}, {whole(2, 2), whole(1, 3), true},
		{whole(0, 2), whole(1, 3), false}, {whole(2, 4), whole(1, 3), false}, {whole(0, 4), whole(1, 3), false}, {whole(4, 5), whole(1, 3), false}, {whole(-1, 0), whole(1, 3), false},
	} {
		if in := ival.In(x.a, x.b); in != x.in {
			t.Errorf("%v in %v: %t", x.a, x.b, in)
		}
	}
	all := spans(common())
	for _, a := range all {
		for _, b := range all {
			want := inside(b, bigRat(a.Lo)) && inside(b, bigRat(a.Hi))
			if in := ival.In(a, b); in != want {
				t.Fatalf("%v in %v: %t", a, b, in)
			}
		}
	}
}

// P7.1, G1: what is told of single intervals, with nought beside, at an end and within.
func TestSingles(t *testing.T) {
	thirds := func(lo, hi int64) api.Span { return api.Span{Lo: over(lo, 3), Hi: over(hi, 3)} }
	all := operations()
	for _, x := range []struct {
		o          operation
		a, b, want api.Span
	}{
		{all[0], whole(1, 2), whole(3, 5), whole(4, 7)},
		{all[0], whole(-1, 2), whole(-5, 3), whole(-6, 5)},
		{all[0], whole(0, 0), whole(0, 0), whole(0, 0)},
		{all[0], thirds(1, 2), thirds(2, 4), whole(1, 2)},
		{all[1], whole(1, 2), whole(3, 5), whole(3, 10)},
		{all[1], whole(-2, -1), whole(3, 5), whole(-10, -3)},
		{all[1], whole(-2, -1), whole(-5, -3), whole(3, 10)},
		{all[1], whole(-2, 1), whole(3, 5), whole(-10, 5)},
		{all[1], whole(-2, 1), whole(-5, -3), whole(-5, 10)},
		{all[1], whole(-2, 1), whole(-3, 5), whole(-10, 6)},
		{all[1], whole(-1, 2), whole(-3, 5), whole(-6, 10)},
		{all[1], whole(-5, 1), whole(-3, 2), whole(-10, 15)},
		{all[1], whole(0, 0), whole(-3, 5), whole(0, 0)},
		{all[2], whole(1, 2), whole(3, 3), thirds(1, 2)},
		{all[2], whole(2, 12), whole(2, 3), api.Span{Lo: over(2, 3), Hi: over(6, 1)}},
		{all[2], whole(2, 12), whole(-3, -2), api.Span{Lo: over(-6, 1), Hi: over(-2, 3)}},
		{all[2], whole(-2, 12), whole(2, 3), whole(-1, 6)},
		{all[2], whole(-2, 12), whole(-3, -2), whole(-6, 1)},
		{all[2], whole(0, 0), whole(-3, -2), whole(0, 0)},
	} {
		if c := x.o.told(t, x.a, x.b); !same(c, x.want) {
			t.Errorf("%s of %v and %v: %v, not %v", x.o.name, x.a, x.b, c, x.want)
		}
	}
}

// P7.1, G1: Add, Mul and Div are the least intervals, at all pairs.
func TestLeast(t *testing.T) {
	all := spans(common())
	for _, o := range operations() {
		for _, a := range all {
			for _, b := range all {
				if !o.able(b) {
					continue
				}
				if c, want := o.told(t, a, b), o.least(a, b); !same(c, want) {
					t.Fatalf("%s of %v and %v: %v, not %v", o.name, a, b, c, want)
				}
			}
		}
	}
}

// P7.1, G1: the least intervals at long numbers and at edges of limbs.
func TestLeastOfMany(t *testing.T) {
	all := single()
	for _, o := range operations() {
		for i, a := range all {
			for j := i % 211; j < len(all); j += 211 {
				if b := all[j]; o.able(b) {
					if c, want := o.told(t, a, b), o.least(a, b); !same(c, want) {
						t.Fatalf("%s of %v and %v: %v, not %v", o.name, a, b, c, want)
					}
				}
			}
		}
	}
}

// P7.1, G1: ErrZero, and none, if b has nought: at an end, within or alone.
func TestDivByNought(t *testing.T) {
	for _, b := range slices.Concat(spans(common()), single(), []api.Span{{Lo: over(-1, full>>1), Hi: over(1, full>>1)}}) {
		for _, a := range []api.Span{whole(0, 0), whole(1, 2), whole(-1, 1), b} {
			c, e := ival.Div(a, b)
			if inside(b, new(big.Rat)) {
				if e != api.ErrZero || !same(c, api.Span{}) {
					t.Fatalf("Div of %v by %v: %v %d", a, b, c, e)
				}
			} else if e != api.OK {
				t.Fatalf("Div of %v by %v: error %d", a, b, e)
			}
		}
	}
}

// P7.1, G2: Out goes down and up to the grid, no farther than it has to.
func TestOut(t *testing.T) {
	for _, x := range []struct {
		lo, hi api.Rat
		k      int
		want   api.Span
	}{
		{over(5, 4), over(7, 4), 0, whole(1, 2)},
		{over(5, 4), over(7, 4), 1, whole(1, 2)},
		{over(5, 4), over(7, 4), 2, api.Span{Lo: over(5, 4), Hi: over(7, 4)}},
		{over(-1, 3), over(1, 3), 0, whole(-1, 1)},
		{over(-1, 3), over(1, 3), 1, api.Span{Lo: over(-1, 2), Hi: over(1, 2)}},
		{over(1, 3), over(1, 3), 2, api.Span{Lo: over(1, 4), Hi: over(1, 2)}},
		{over(-7, 3), over(-5, 3), 0, whole(-3, -1)},
		{over(0, 1), over(0, 1), most, whole(0, 0)},
	} {
		a := api.Span{Lo: x.lo, Hi: x.hi}
		if b, e := ival.Out(a, x.k); e != api.OK || !same(b, x.want) {
			t.Errorf("Out of %v, k %d: %v %d, not %v", a, x.k, b, e, x.want)
		}
	}
	all := slices.Concat(spans(common()), single())
	for _, k := range grids() {
		for _, a := range all {
			want := spanOf(back(floor(bigRat(a.Lo), k), k), back(ceil(bigRat(a.Hi), k), k))
			if b, e := ival.Out(a, k); e != api.OK || !same(b, want) {
				t.Fatalf("Out of %v, k %d: %v %d, not %v", a, k, b, e, want)
			}
		}
	}
}

// P7.1, G2: Sqrt of single intervals, with the chapter's example.
func TestSqrtSingles(t *testing.T) {
	for _, x := range []struct {
		lo, hi api.Rat
		k      int
		want   api.Span
	}{
		{over(2, 1), over(2, 1), 1, api.Span{Lo: over(1, 1), Hi: over(3, 2)}}, // the chapter's
		{over(0, 1), over(0, 1), 0, whole(0, 0)},
		{over(0, 1), over(0, 1), most, whole(0, 0)},
		{over(1, 1), over(1, 1), 0, whole(1, 1)},
		{over(4, 1), over(9, 1), 7, whole(2, 3)},
		{over(3, 1), over(10, 1), 0, whole(1, 4)},
		{over(9, 4), over(9, 4), 0, whole(1, 2)},
		{over(9, 4), over(9, 4), 1, api.Span{Lo: over(3, 2), Hi: over(3, 2)}},
		{over(0, 1), over(1, 100), 0, whole(0, 1)},
		{over(0, 1), over(1, 100), 3, api.Span{Lo: over(0, 1), Hi: over(1, 8)}},
		{over(399, 100), over(401, 100), 0, whole(1, 3)},
		{over(1, 9), over(4, 9), 2, api.Span{Lo: over(1, 4), Hi: over(3, 4)}},
	} {
		a := api.Span{Lo: x.lo, Hi: x.hi}
		if b, e := ival.Sqrt(a, x.k); e != api.OK || !same(b, x.want) {
			t.Errorf("Sqrt of %v, k %d: %v %d, not %v", a, x.k, b, e, x.want)
		}
	}
}

// P7.1, G2: Sqrt against math/big; ErrArg, and none, if Lo is below nought.
func TestSqrt(t *testing.T) {
	all := slices.Concat(spans(common()), single())
	for _, k := range grids() {
		for _, a := range all {
			b, e := ival.Sqrt(a, k)
			if isBelow(a) {
				if e != api.ErrArg || !same(b, api.Span{}) {
					t.Fatalf("Sqrt of %v, k %d: %v %d", a, k, b, e)
				}
			} else if want := roots(a, k); e != api.OK || !same(b, want) {
				t.Fatalf("Sqrt of %v, k %d: %v %d, not %v", a, k, b, e, want)
			}
		}
	}
}

// P7.1, G2: every k that is there has its grid, both for Out and for Sqrt.
func TestEveryGrid(t *testing.T) {
	a := whole(2, 3)
	third := ival.Of(over(1, 3))
	for k := range most + 1 {
		if b, e := ival.Sqrt(a, k); e != api.OK || !same(b, roots(a, k)) {
			t.Fatalf("Sqrt of %v, k %d: %v %d", a, k, b, e)
		}
		b, e := ival.Out(third, k)
		x := bigRat(third.Lo)
		if want := spanOf(back(floor(x, k), k), back(ceil(x, k), k)); e != api.OK || !same(b, want) {
			t.Fatalf("Out of a third, k %d: %v %d", k, b, e)
		}
	}
}

// P7.1, G2: ErrArg, and none, if there is no such k.
func TestNoGrid(t *testing.T) {
	for _, k := range noGrids() {
		for _, a := range slices.Concat(spans(common()), single()) {
			if b, e := ival.Out(a, k); e != api.ErrArg || !same(b, api.Span{}) {
				t.Fatalf("Out of %v, k %d: %v %d", a, k, b, e)
			}
			if b, e := ival.Sqrt(a, k); e != api.ErrArg || !same(b, api.Span{}) {
				t.Fatalf("Sqrt of %v, k %d: %v %d", a, k, b, e)
			}
		}
	}
}

// P7.1: what is told is right.
func TestToldIsRight(t *testing.T) {
	all := spans(common())
	for _, a := range all {
		for _, b := range all {
			for _, o := range operations() {
				if c, e := o.spans(a, b); e == api.OK && !ival.Right(c) {
					t.Fatalf("%s of %v and %v: %v", o.name, a, b, c)
				}
			}
		}
		for _, k := range []int{0, 1, 64} {
			if b, e := ival.Out(a, k); e == api.OK && !ival.Right(b) {
				t.Fatalf("Out of %v, k %d: %v", a, k, b)
			}
			if b, e := ival.Sqrt(a, k); e == api.OK && !ival.Right(b) {
				t.Fatalf("Sqrt of %v, k %d: %v", a, k, b)
			}
		}
	}
}

// P7.2: what is reckoned of numbers of intervals is in what is reckoned of these.
func TestHasWhatIsReckoned(t *testing.T) {
	all := spans(little())
	for _, o := range operations() {
		for _, a := range all {
			for _, b := range all {
				if !o.able(b) {
					continue
				}
				c := o.told(t, a, b)
				for _, x := range members(a) {
					for _, y := range members(b) {
						if z := ratOf(o.rats(x, y)); !ival.Has(c, z) {
							t.Fatalf("%s of %v and %v: %v has no %v", o.name, a, b, c, z)
						}
					}
				}
			}
		}
	}
}

// P7.2: Out has all numbers of what it is of, and Sqrt has the root of each square there.
func TestHasWhatIsLaidOut(t *testing.T) {
	for _, a := range slices.Concat(spans(little()), spans(common())) {
		for _, k := range []int{0, 1, 5, 64, most} {
			out, e := ival.Out(a, k)
			if e != api.OK || !ival.In(a, out) {
				t.Fatalf("Out of %v, k %d: %v %d", a, k, out, e)
			}
			for _, x := range members(a) {
				square := spanOf(new(big.Rat).Mul(x, x), new(big.Rat).Add(new(big.Rat).Mul(x, x), big.NewRat(1, 3)))
				root, e := ival.Sqrt(square, k)
				if e != api.OK || !ival.Has(root, ratOf(new(big.Rat).Abs(x))) {
					t.Fatalf("Sqrt of %v, k %d: %v %d, without %v", square, k, root, e, x)
				}
				if !ival.Has(out, ratOf(x)) {
					t.Fatalf("Out of %v, k %d: %v has no %v", a, k, out, x)
				}
			}
		}
	}
}

// P7.3: of intervals in intervals what is reckoned is in it.
func TestInWhatIsReckoned(t *testing.T) {
	all := spans(little())
	type pair struct{ inner, outer api.Span }
	var nested []pair
	for _, a := range all {
		for _, b := range all {
			if ival.In(a, b) {
				nested = append(nested, pair{a, b})
			}
		}
	}
	for _, o := range operations() {
		for _, a := range nested {
			for _, b := range nested {
				if !o.able(b.outer) {
					continue
				}
				inner, outer := o.told(t, a.inner, b.inner), o.told(t, a.outer, b.outer)
				if !ival.In(inner, outer) {
					t.Fatalf("%s of %v and %v: %v, not in %v", o.name, a, b, inner, outer)
				}
			}
		}
	}
	for _, a := range nested {
		for _, k := range grids() {
			inner, _ := ival.Out(a.inner, k)
			if outer, _ := ival.Out(a.outer, k); !ival.In(inner, outer) {
				t.Fatalf("Out of %v, k %d: %v, not in %v", a, k, inner, outer)
			}
			if isBelow(a.outer) {
				continue
			}
			inner, _ = ival.Sqrt(a.inner, k)
			if outer, _ := ival.Sqrt(a.outer, k); !ival.In(inner, outer) {
				t.Fatalf("Sqrt of %v, k %d: %v, not in %v", a, k, inner, outer)
			}
		}
	}
}

// P7.4: squares of Sqrt's ends lie around, and ends that are a step nearer would not; they are on the grid, and none is below nought.
func TestSquaresLieAround(t *testing.T) {
	square := func(x *big.Rat) *big.Rat { return new(big.Rat).Mul(x, x) }
	for _, k := range grids() {
		step := back(big.NewInt(1), k)
		for _, a := range slices.Concat(spans(common()), single()) {
			if isBelow(a) {
				continue
			}
			b, e := ival.Sqrt(a, k)
			if e != api.OK {
				t.Fatalf("Sqrt of %v, k %d: error %d", a, k, e)
			}
			lo, hi := bigRat(b.Lo), bigRat(b.Hi)
			if lo.Sign() < 0 || square(lo).Cmp(bigRat(a.Lo)) > 0 || square(hi).Cmp(bigRat(a.Hi)) < 0 {
				t.Fatalf("Sqrt of %v, k %d: %v is not around", a, k, b)
			}
			if square(new(big.Rat).Add(lo, step)).Cmp(bigRat(a.Lo)) <= 0 {
				t.Fatalf("Sqrt of %v, k %d: Lo of %v is too low", a, k, b)
			}
			if hi.Sign() > 0 && square(new(big.Rat).Sub(hi, step)).Cmp(bigRat(a.Hi)) >= 0 {
				t.Fatalf("Sqrt of %v, k %d: Hi of %v is too high", a, k, b)
			}
			for _, x := range []*big.Rat{lo, hi} {
				if !new(big.Rat).Quo(x, step).IsInt() {
					t.Fatalf("Sqrt of %v, k %d: %v is not on the grid", a, k, b)
				}
			}
		}
	}
}

// R4: neither what is handed in nor the room behind it is changed, and an answer is memory of its own, each list of it.
func TestKeepsArguments(t *testing.T) {
	first := api.Nat{3, 5, 77, 78}
	top, under := slices.Clone(first), slices.Clone(first)
	ends := []api.Rat{
		{P: api.Zed{Neg: true, N: top[:2]}, Q: api.Nat{7}},
		{P: api.Zed{Neg: true, N: api.Nat{1, 9, 9}[:1]}, Q: under[:1]},
		{Q: api.Nat{1, 9, 9}[:1]},
		{P: api.Zed{N: api.Nat{1, 9, 9}[:1]}, Q: under[:2]},
		{P: api.Zed{N: top[:1]}, Q: api.Nat{1}},
		{P: api.Zed{N: top[:2]}, Q: api.Nat{1, 9, 9}[:1]},
	}
	all := spans(ends)
	var answers []api.Nat
	keep := func(a api.Span) {
		answers = append(answers, a.Lo.P.N, a.Lo.Q, a.Hi.P.N, a.Hi.Q)
	}
	for _, a := range all {
		keep(ival.Of(a.Lo))
		for _, b := range all {
			for _, o := range operations() {
				if o.able(b) {
					keep(o.told(t, a, b))
				}
			}
		}
		for _, k := range []int{0, 1, 64, 100} {
			b, _ := ival.Out(a, k)
			keep(b)
			b, _ = ival.Sqrt(a, k)
			keep(b)
		}
	}
	copies := make([]api.Nat, len(answers))
	for i, x := range answers {
		copies[i] = slices.Clone(x)
	}
	for i, x := range answers { // whoever writes into one answer, all its room, changes no other one
		if !slices.Equal(x, copies[i]) {
			t.Fatalf("answer %d shares memory with one ahead of it", i)
		}
		x = x[:cap(x)]
		for j := range x {
			x[j] = 99
		}
	}
	if !slices.Equal(top, first) || !slices.Equal(under, first) {
		t.Errorf("changed: %v, %v", top, under)
	}
	for _, spare := range []api.Nat{ends[1].P.N, ends[2].Q, ends[3].P.N, ends[5].Q} {
		if !slices.Equal(spare[:3], api.Nat{1, 9, 9}) {
			t.Errorf("changed: %v", spare[:3])
		}
	}
}

// No call panics, and all end, even at intervals that are not right, the zero value among them.
func TestWrongIntervals(t *testing.T) {
	nats := []api.Nat{nil, {0}, {2}, {1, 0}, {0, 6, 0}, {full, 0, 0}}
	var ends []api.Rat
	for _, p := range nats {
		for _, q := range nats {
			ends = append(ends, api.Rat{P: api.Zed{N: p}, Q: q}, api.Rat{P: api.Zed{Neg: true, N: p}, Q: q})
		}
	}
	var wrong []api.Span
	for _, lo := range ends {
		ival.Of(lo)
		for _, hi := range ends {
			wrong = append(wrong, api.Span{Lo: lo, Hi: hi})
		}
	}
	for i, a := range wrong {
		ival.Right(a)
		ival.Has(a, wrong[(i+7)%len(wrong)].Lo)
		for j := i % 101; j < len(wrong); j += 101 {
			b := wrong[j]
			ival.In(a, b)
			for _, o := range operations() {
				o.spans(a, b)
			}
		}
		for _, k := range []int{-1, 0, 1, 64, most, most + 1} {
			ival.Out(a, k)
			ival.Sqrt(a, k)
		}
	}
}
