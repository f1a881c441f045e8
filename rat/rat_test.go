package rat_test

import (
	"math"
	"math/big"
	"slices"
	"testing"

	"ratchet/api"
	"ratchet/rat"
)

const (
	full = 1<<64 - 1
	half = 1 << 63
)

// over is p by q, laid without rat's calls; whoever asks has seen to it that nothing divides both.
func over(p int64, q uint64) api.Rat {
	a := api.Rat{P: api.Zed{Neg: p < 0}, Q: api.Nat{q}}
	switch {
	case p < 0:
		a.P.N = api.Nat{-uint64(p)}
	case p > 0:
		a.P.N = api.Nat{uint64(p)}
	}
	return a
}

// small are all right rationals with small P and Q.
func small(most int64) []api.Rat {
	all := []api.Rat{over(0, 1)}
	for q := int64(1); q <= most; q++ {
		for p := int64(1); p <= most; p++ {
			if new(big.Int).GCD(nil, nil, big.NewInt(p), big.NewInt(q)).Int64() == 1 {
				all = append(all, over(p, uint64(q)), over(-p, uint64(q)))
			}
		}
	}
	return all
}

// limbs are numbers whose limbs lie at an end or at the middle.
func limbs() []api.Nat {
	return []api.Nat{
		{1}, {2}, {6}, {half - 1}, {half}, {half + 1}, {full - 1}, {full},
		{0, 1}, {1, 1}, {full, 1}, {0, half}, {full, full}, {1, full},
		{0, 0, 1}, {0, full, 3}, {full, full, full},
	}
}

// edges are the rationals of which both parts are such numbers, reduced by math/big.
func edges() []api.Rat {
	all := []api.Rat{over(0, 1)}
	for _, p := range limbs() {
		for _, q := range limbs() {
			n := new(big.Rat).SetFrac(bigNat(p), bigNat(q))
			all = append(all, ratOf(n), ratOf(n.Neg(n)))
		}
	}
	slices.SortFunc(all, func(a, b api.Rat) int { return bigOf(a).Cmp(bigOf(b)) })
	return slices.CompactFunc(all, same)
}

// long are greater rationals of mixed limbs, with divisors that some share, the same in every run.
func long() []api.Rat {
	var all []api.Rat
	x := uint64(88172645463325252)
	mixed := func(n int) *big.Int {
		a := make(api.Nat, n)
		for i := range a {
			x ^= x << 13
			x ^= x >> 7
			x ^= x << 17
			a[i] = x
		}
		a[n-1] |= 1
		return bigNat(a)
	}
	shared := mixed(3)
	for _, n := range []int{1, 2, 3, 5, 9, 20} {
		for _, m := range []int{1, 2, 4, 11} {
			p, q := mixed(n), mixed(m)
			all = append(all, ratOf(new(big.Rat).SetFrac(p, q)))
			q.Mul(q, shared)
			all = append(all, ratOf(new(big.Rat).SetFrac(p.Neg(p), q)))
			p.Mul(p, shared)
			all = append(all, ratOf(new(big.Rat).SetFrac(p, mixed(m))))
		}
	}
	return all
}

func everything() []api.Rat {
	return slices.Concat(small(4), edges(), long())
}

func bigNat(a api.Nat) *big.Int {
	n := new(big.Int)
	for _, x := range slices.Backward(a) {
		n.Lsh(n, 64).Or(n, new(big.Int).SetUint64(x))
	}
	return n
}

func natOf(n *big.Int) api.Nat {
	var a api.Nat
	low := new(big.Int).SetUint64(full)
	for n = new(big.Int).Abs(n); n.Sign() > 0; n.Rsh(n, 64) {
		a = append(a, new(big.Int).And(n, low).Uint64())
	}
	return a
}

func bigOf(a api.Rat) *big.Rat {
	p := bigNat(a.P.N)
	if a.P.Neg {
		p.Neg(p)
	}
	return new(big.Rat).SetFrac(p, bigNat(a.Q))
}

func ratOf(x *big.Rat) api.Rat {
	return api.Rat{P: api.Zed{Neg: x.Sign() < 0, N: natOf(x.Num())}, Q: natOf(x.Denom())}
}

func same(a, b api.Rat) bool {
	return a.P.Neg == b.P.Neg && slices.Equal(a.P.N, b.P.N) && slices.Equal(a.Q, b.Q)
}

// is holds got against the one right form of want.
func is(t *testing.T, what string, got api.Rat, want *big.Rat) {
	t.Helper()
	if !same(got, ratOf(want)) {
		t.Fatalf("%s: %v, not %v", what, got, want)
	}
}

func none(a api.Rat) bool {
	return !a.P.Neg && len(a.P.N) == 0 && len(a.Q) == 0
}

// P5.1, E1: Right.
func TestRight(t *testing.T) {
	for _, a := range slices.Concat([]api.Rat{{P: api.Zed{N: api.Nat{}}, Q: api.Nat{1}}}, everything()) {
		if !rat.Right(a) {
			t.Errorf("%v is right", a)
		}
	}
	for _, a := range []api.Rat{
		{},
		{P: api.Zed{N: api.Nat{}}, Q: api.Nat{}},
		{P: api.Zed{N: api.Nat{1}}},
		{P: api.Zed{Neg: true, N: api.Nat{1}}},
		{P: api.Zed{N: api.Nat{5}}},
		{Q: api.Nat{2}},
		{Q: api.Nat{0, 1}},
		{P: api.Zed{Neg: true}, Q: api.Nat{1}},
		{P: api.Zed{N: api.Nat{0}}, Q: api.Nat{1}},
		{P: api.Zed{N: api.Nat{1, 0}}, Q: api.Nat{1}},
		{P: api.Zed{N: api.Nat{1}}, Q: api.Nat{0}},
		{P: api.Zed{N: api.Nat{1}}, Q: api.Nat{1, 0}},
		{Q: api.Nat{1, 0}},
		{P: api.Zed{N: api.Nat{2}}, Q: api.Nat{2}},
		{P: api.Zed{N: api.Nat{6}}, Q: api.Nat{4}},
		{P: api.Zed{Neg: true, N: api.Nat{6}}, Q: api.Nat{9}},
		{P: api.Zed{N: api.Nat{full}}, Q: api.Nat{full}},
		{P: api.Zed{N: api.Nat{0, 1}}, Q: api.Nat{2}},
		{P: api.Zed{N: api.Nat{full, full}}, Q: api.Nat{full}},
	} {
		if rat.Right(a) {
			t.Errorf("%v is not right", a)
		}
	}
}

// P5.1, E1: Make, with the chapter's example.
func TestMake(t *testing.T) {
	if a, e := rat.Make(api.Zed{N: api.Nat{6}}, api.Nat{4}); e != api.OK || !same(a, over(3, 2)) {
		t.Errorf("6 by 4: %v %v", a, e)
	}
	for p := int64(-30); p <= 30; p++ {
		for q := int64(1); q <= 30; q++ {
			a, e := rat.Make(over(p, 1).P, api.Nat{uint64(q)})
			if e != api.OK {
				t.Fatalf("%d by %d: %v", p, q, e)
			}
			is(t, "Make", a, big.NewRat(p, q))
		}
	}
	tops := []api.Zed{{}}
	for _, p := range limbs() {
		tops = append(tops, api.Zed{N: p}, api.Zed{Neg: true, N: p})
	}
	for _, p := range tops {
		for _, q := range limbs() {
			a, e := rat.Make(p, q)
			if e != api.OK {
				t.Fatalf("%v by %v: %v", p, q, e)
			}
			top := bigNat(p.N)
			if p.Neg {
				top.Neg(top)
			}
			is(t, "Make", a, new(big.Rat).SetFrac(top, bigNat(q)))
		}
		for _, q := range []api.Nat{nil, {}} {
			if a, e := rat.Make(p, q); e != api.ErrZero || !none(a) {
				t.Errorf("%v by nought: %v %v", p, a, e)
			}
		}
	}
}

// P5.1, E1: Of.
func TestOf(t *testing.T) {
	for _, n := range []int64{0, 1, -1, 2, -2, 10, 1 << 40, -1 << 40, math.MaxInt64, math.MinInt64, math.MinInt64 + 1} {
		is(t, "Of", rat.Of(n), new(big.Rat).SetInt64(n))
	}
}

// P5.1, E1 and E2: Cmp, Add, Sub, Mul and Div against math/big, one another's sign and nought included.
func TestAgainstBig(t *testing.T) {
	for _, all := range [][]api.Rat{small(7), slices.Concat(small(2), edges()[150:240], long())} {
		for _, a := range all {
			for _, b := range all {
				against(t, a, b)
			}
		}
	}
	all := edges()
	for i, a := range all { // each with some far and some near
		for _, j := range []int{0, i, i / 2, len(all) - 1 - i, (i + 1) % len(all), (7*i + 3) % len(all)} {
			against(t, a, all[j])
		}
	}
}

func against(t *testing.T, a, b api.Rat) {
	t.Helper()
	x, y := bigOf(a), bigOf(b)
	if c := rat.Cmp(a, b); c != x.Cmp(y) {
		t.Fatalf("Cmp of %v and %v: %d", a, b, c)
	}
	is(t, "Add", rat.Add(a, b), new(big.Rat).Add(x, y))
	is(t, "Sub", rat.Sub(a, b), new(big.Rat).Sub(x, y))
	is(t, "Mul", rat.Mul(a, b), new(big.Rat).Mul(x, y))
	quotient, e := rat.Div(a, b)
	if y.Sign() == 0 {
		if e != api.ErrZero || !none(quotient) {
			t.Fatalf("%v by nought: %v %v", a, quotient, e)
		}
		return
	}
	if e != api.OK {
		t.Fatalf("Div of %v by %v: %v", a, b, e)
	}
	is(t, "Div", quotient, new(big.Rat).Quo(x, y))
}

// P5.1, E2: what small sums, differences, products and quotients are.
func TestReckons(t *testing.T) {
	for _, x := range []struct{ a, b, sum, less, product, quotient api.Rat }{
		{over(1, 2), over(1, 3), over(5, 6), over(1, 6), over(1, 6), over(3, 2)},
		{over(1, 6), over(1, 3), over(1, 2), over(-1, 6), over(1, 18), over(1, 2)},
		{over(-3, 4), over(3, 4), over(0, 1), over(-3, 2), over(-9, 16), over(-1, 1)},
		{over(2, 3), over(-3, 2), over(-5, 6), over(13, 6), over(-1, 1), over(-4, 9)},
		{over(0, 1), over(-7, 5), over(-7, 5), over(7, 5), over(0, 1), over(0, 1)},
		{over(5, 12), over(1, 12), over(1, 2), over(1, 3), over(5, 144), over(5, 1)},
		{over(-1, 6), over(-1, 10), over(-4, 15), over(-1, 15), over(1, 60), over(5, 3)},
	} {
		quotient, e := rat.Div(x.a, x.b)
		if !same(rat.Add(x.a, x.b), x.sum) || !same(rat.Sub(x.a, x.b), x.less) || !same(rat.Mul(x.a, x.b), x.product) || !same(quotient, x.quotient) || e != api.OK {
			t.Errorf("%v and %v", x.a, x.b)
		}
	}
	for _, a := range []api.Rat{over(0, 1), over(1, 1), over(-5, 3)} {
		for _, nought := range []api.Rat{over(0, 1), {P: api.Zed{N: api.Nat{}}, Q: api.Nat{1}}} {
			if q, e := rat.Div(a, nought); e != api.ErrZero || !none(q) {
				t.Errorf("%v by nought: %v %v", a, q, e)
			}
		}
	}
}

// some are few enough to be taken by threes.
func some() []api.Rat {
	all := slices.Concat(small(3), long()[:8])
	for i, a := range edges() {
		if i%61 == 0 {
			all = append(all, a)
		}
	}
	return all
}

// P5.2: order and brackets.
func TestField(t *testing.T) {
	all := some()
	for _, a := range all {
		for _, b := range all {
			sum, product := rat.Add(a, b), rat.Mul(a, b)
			if !same(sum, rat.Add(b, a)) || !same(product, rat.Mul(b, a)) {
				t.Fatalf("order of %v and %v", a, b)
			}
			for _, c := range all {
				if !same(rat.Add(sum, c), rat.Add(a, rat.Add(b, c))) {
					t.Fatalf("sums of %v, %v and %v", a, b, c)
				}
				if !same(rat.Mul(product, c), rat.Mul(a, rat.Mul(b, c))) {
					t.Fatalf("products of %v, %v and %v", a, b, c)
				}
				if !same(rat.Mul(sum, c), rat.Add(rat.Mul(a, c), rat.Mul(b, c))) {
					t.Fatalf("a product of a sum: %v, %v and %v", a, b, c)
				}
			}
		}
	}
}

// P5.2: Sub takes back Add, Div Mul.
func TestTakesBack(t *testing.T) {
	all := slices.Concat(small(5), some())
	nought, one := over(0, 1), over(1, 1)
	for _, a := range all {
		if !same(rat.Add(a, nought), a) || !same(rat.Sub(a, nought), a) || !same(rat.Sub(a, a), nought) || !same(rat.Mul(a, one), a) || !same(rat.Mul(a, nought), nought) {
			t.Fatalf("%v with nought and 1", a)
		}
		for _, b := range all {
			if !same(rat.Sub(rat.Add(a, b), b), a) || !same(rat.Add(rat.Sub(a, b), b), a) {
				t.Fatalf("%v and %v, and less it", a, b)
			}
			back, e := rat.Div(rat.Mul(a, b), b)
			if len(b.P.N) == 0 {
				if e != api.ErrZero || !none(back) {
					t.Fatalf("%v by nought: %v %v", a, back, e)
				}
				continue
			}
			quotient, f := rat.Div(a, b)
			if e != api.OK || f != api.OK || !same(back, a) || !same(rat.Mul(quotient, b), a) {
				t.Fatalf("%v times %v, and by it", a, b)
			}
		}
	}
}

// P5.3: Cmp is an order.
func TestOrder(t *testing.T) {
	all := everything()
	slices.SortFunc(all, func(a, b api.Rat) int { return bigOf(a).Cmp(bigOf(b)) })
	for i, a := range all {
		for _, b := range all[i:] {
			want := -1
			if same(a, b) {
				want = 0
			}
			if c, d := rat.Cmp(a, b), rat.Cmp(b, a); c != want || d != -want {
				t.Fatalf("Cmp of %v and %v: %d, and %d back", a, b, c, d)
			}
		}
	}
}

// P5.3: sums keep the order, and products by what is above nought; those by what is below turn it round.
func TestKeepsOrder(t *testing.T) {
	all := some()
	for _, a := range all {
		for _, b := range all {
			order := rat.Cmp(a, b)
			for _, c := range all {
				if rat.Cmp(rat.Add(a, c), rat.Add(b, c)) != order || rat.Cmp(rat.Sub(a, c), rat.Sub(b, c)) != order {
					t.Fatalf("sums of %v and %v with %v", a, b, c)
				}
				if rat.Cmp(rat.Mul(a, c), rat.Mul(b, c)) != order*rat.Cmp(c, over(0, 1)) {
					t.Fatalf("products of %v and %v by %v", a, b, c)
				}
			}
		}
	}
}

// R4: neither what is handed in nor the room behind it is changed, and an answer is memory of its own.
func TestKeepsArguments(t *testing.T) {
	first := api.Nat{3, 5, 77, 78}
	top, under := slices.Clone(first), slices.Clone(first)
	args := []api.Rat{
		{P: api.Zed{N: top[:1]}, Q: api.Nat{1}},
		{P: api.Zed{N: top[:2]}, Q: api.Nat{7}},
		{P: api.Zed{Neg: true, N: top[1:2]}, Q: under[:1]},
		{P: api.Zed{Neg: true, N: api.Nat{1}}, Q: under[:2]},
		{P: api.Zed{N: top[:0]}, Q: api.Nat{1, 9, 9}[:1]},
	}
	var answers []api.Nat
	take := func(a api.Rat) {
		answers = append(answers, a.P.N, a.Q)
	}
	take(rat.Of(5))
	for _, a := range args {
		if !rat.Right(a) {
			t.Fatalf("%v is right", a)
		}
		made, _ := rat.Make(a.P, a.Q)
		take(made)
		for _, b := range args {
			rat.Cmp(a, b)
			take(rat.Add(a, b))
			take(rat.Sub(a, b))
			take(rat.Mul(a, b))
			quotient, _ := rat.Div(a, b)
			take(quotient)
		}
	}
	copies := make([]api.Nat, len(answers))
	for i, x := range answers {
		copies[i] = slices.Clone(x)
	}
	for i, x := range answers { // whoever writes into one answer, all its room, changes no other one
		if !slices.Equal(x, copies[i]) {
			t.Errorf("answer %d shares memory with one ahead of it", i)
		}
		x = x[:cap(x)]
		for j := range x {
			x[j] = 99
		}
	}
	if !slices.Equal(top, first) || !slices.Equal(under, first) {
		t.Errorf("changed: %v, %v", top, under)
	}
	if spare := args[4].Q[:3]; !slices.Equal(spare, api.Nat{1, 9, 9}) {
		t.Errorf("changed: %v", spare)
	}
}

// No call panics, and all end, even at rationals that are not right, the zero value among them.
func TestWrongRationals(t *testing.T) {
	var all []api.Rat
	nats := []api.Nat{nil, {}, {0}, {0, 0}, {2}, {1, 0}, {0, 6, 0}, {full, 0, 0}, make(api.Nat, 100)}
	for _, p := range nats {
		for _, q := range nats {
			all = append(all, api.Rat{P: api.Zed{N: p}, Q: q}, api.Rat{P: api.Zed{Neg: true, N: p}, Q: q})
		}
	}
	for _, a := range all {
		rat.Right(a)
		if made, e := rat.Make(a.P, a.Q); e != api.OK && !none(made) {
			t.Errorf("Make of %v: %v %v", a, made, e)
		}
		for _, b := range all {
			rat.Cmp(a, b)
			rat.Add(a, b)
			rat.Sub(a, b)
			rat.Mul(a, b)
			if quotient, e := rat.Div(a, b); e != api.OK && !none(quotient) {
				t.Errorf("Div of %v by %v: %v %v", a, b, quotient, e)
			}
		}
	}
}
