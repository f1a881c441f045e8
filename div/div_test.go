package div_test

import (
	"math"
	"math/big"
	"slices"
	"testing"

	"ratchet/api"
	"ratchet/div"
	"ratchet/nat"
)

const (
	full = 1<<64 - 1
	half = 1 << 63
)

// edges are all right numbers of at most three limbs whose limbs lie at an end or at the middle, so that guesses of divisions are too great by every number that they can be.
func edges() []api.Nat {
	ends := []uint64{0, 1, half - 1, half, full}
	all := []api.Nat{nil}
	for _, top := range ends[1:] {
		all = append(all, api.Nat{top})
		for _, mid := range ends {
			all = append(all, api.Nat{mid, top})
			for _, low := range ends {
				all = append(all, api.Nat{low, mid, top})
			}
		}
	}
	return all
}

// mixed is a source of numbers, the same in every run.
type mixed uint64

func (m *mixed) limb() uint64 {
	x := uint64(*m)
	x ^= x << 13
	x ^= x >> 7
	x ^= x << 17
	*m = mixed(x)
	return x
}

// number has n limbs, with some of their bits all alike, since carries run far there.
func (m *mixed) number(n int) api.Nat {
	a := make(api.Nat, n)
	for i := range a {
		a[i] = m.limb()
		switch m.limb() % 4 {
		case 0:
			a[i] = full << (a[i] % 64)
		case 1:
			a[i] = full >> (a[i] % 64)
		}
	}
	if n > 0 && a[n-1] == 0 {
		a[n-1] = 1
	}
	return a
}

// long are greater numbers.
func long() []api.Nat {
	var all []api.Nat
	m := mixed(88172645463325252)
	for _, n := range []int{4, 5, 9, 17, 40, 41} {
		all = append(all, m.number(n))
	}
	return all
}

func bigOf(a api.Nat) *big.Int {
	n := new(big.Int)
	for _, x := range slices.Backward(a) {
		n.Lsh(n, 64).Or(n, new(big.Int).SetUint64(x))
	}
	return n
}

func isRight(got api.Nat, want *big.Int) bool {
	return bigOf(got).Cmp(want) == 0 && (len(got) == 0 || got[len(got)-1] != 0)
}

// whole is P2.2 for one pair, and its answer against math/big.
func whole(t *testing.T, a, b api.Nat) {
	t.Helper()
	q, r, e := div.DivMod(a, b)
	if e != api.OK || nat.Cmp(r, b) >= 0 || !slices.Equal(nat.Add(nat.Mul(q, b), r), a) {
		t.Fatalf("%v by %v: %v, %v, %v", a, b, q, r, e)
	}
	x, y := new(big.Int).QuoRem(bigOf(a), bigOf(b), new(big.Int))
	if !isRight(q, x) || !isRight(r, y) {
		t.Fatalf("%v by %v: %v, %v, not %v, %v", a, b, q, r, x, y)
	}
}

// P2.1, B1.
func TestShifts(t *testing.T) {
	shifts := []int{191, 192, 193, 1000, 2559, 2560, 2624, 12345, 19968, 19999, api.MaxShift}
	for n := range 130 {
		shifts = append(shifts, n)
	}
	for _, a := range append(edges(), long()...) {
		for _, n := range shifts {
			up, e := div.Shl(a, n)
			if e != api.OK || !isRight(up, new(big.Int).Lsh(bigOf(a), uint(n))) {
				t.Fatalf("Shl of %v by %d: %v %v", a, n, up, e)
			}
			down, e := div.Shr(a, n)
			if e != api.OK || !isRight(down, new(big.Int).Rsh(bigOf(a), uint(n))) {
				t.Fatalf("Shr of %v by %d: %v %v", a, n, down, e)
			}
			back, e := div.Shr(up, n)
			if e != api.OK || !slices.Equal(back, a) {
				t.Fatalf("%v by %d and back: %v %v", a, n, back, e)
			}
		}
	}
}

// P2.1, B1: the edges of what a shift is.
func TestNoShift(t *testing.T) {
	for _, n := range []int{-1, -64, math.MinInt, api.MaxShift + 1, 1 << 40, math.MaxInt} {
		for _, a := range []api.Nat{nil, {}, {1}, {5, 6}} {
			if l, e := div.Shl(a, n); e != api.ErrArg || len(l) != 0 {
				t.Errorf("Shl of %v by %d: %v %v", a, n, l, e)
			}
			if l, e := div.Shr(a, n); e != api.ErrArg || len(l) != 0 {
				t.Errorf("Shr of %v by %d: %v %v", a, n, l, e)
			}
		}
	}
}

// P2.1, B2.
func TestByNought(t *testing.T) {
	for _, a := range append(edges(), long()...) {
		for _, b := range []api.Nat{nil, {}} {
			if q, r, e := div.DivMod(a, b); e != api.ErrZero || len(q) != 0 || len(r) != 0 {
				t.Errorf("%v by nought: %v %v %v", a, q, r, e)
			}
		}
	}
}

// P2.1, B2: the chapter's examples, and what stands beside them.
func TestExamples(t *testing.T) {
	for _, x := range []struct{ a, b, q, r api.Nat }{
		{api.Nat{17}, api.Nat{5}, api.Nat{3}, api.Nat{2}},
		{nil, api.Nat{5}, nil, nil},
		{api.Nat{4}, api.Nat{5}, nil, api.Nat{4}},
		{api.Nat{5}, api.Nat{5}, api.Nat{1}, nil},
		{api.Nat{7, 8}, api.Nat{1}, api.Nat{7, 8}, nil},
		{api.Nat{0, 1}, api.Nat{full}, api.Nat{1}, api.Nat{1}},
		{api.Nat{full}, api.Nat{0, 1}, nil, api.Nat{full}},
		{api.Nat{full, full, full}, api.Nat{full, 1}, api.Nat{half >> 1, half}, api.Nat{half>>1 - 1}},
	} {
		if q, r, e := div.DivMod(x.a, x.b); e != api.OK || !slices.Equal(q, x.q) || !slices.Equal(r, x.r) {
			t.Errorf("%v by %v: %v %v %v", x.a, x.b, q, r, e)
		}
	}
	if g := div.Gcd(api.Nat{12}, api.Nat{18}); !slices.Equal(g, api.Nat{6}) {
		t.Errorf("Gcd of 12 and 18: %v", g)
	}
}

// P2.2, at all pairs of edges.
func TestWhole(t *testing.T) {
	all := append(edges(), long()...)
	for _, a := range all {
		for _, b := range all[1:] {
			whole(t, a, b)
		}
	}
}

// P2.2, at numbers of many lengths.
func TestWholeMixed(t *testing.T) {
	m := mixed(2463534242)
	for range 200 {
		for n := range 9 {
			for k := 1; k < 6; k++ {
				whole(t, m.number(n), m.number(k))
			}
		}
	}
}

// P2.2, from the other end: what a product and less than the divisor make is taken apart again, also where every limb of the quotient is the greatest one.
func TestTakesApart(t *testing.T) {
	all := edges()
	for _, b := range all[1:] {
		most, _ := nat.Sub(b, api.Nat{1})
		for _, q := range append(all, api.Nat{full, full, full, full}) {
			for _, r := range []api.Nat{nil, most} {
				gotQ, gotR, e := div.DivMod(nat.Add(nat.Mul(q, b), r), b)
				if e != api.OK || !slices.Equal(gotQ, q) || !slices.Equal(gotR, r) {
					t.Fatalf("%v times %v and %v: %v %v %v", q, b, r, gotQ, gotR, e)
				}
			}
		}
	}
}

// P2.2: guesses that only the lower limbs show to be too great.
func TestGuesses(t *testing.T) {
	for _, x := range [][2]api.Nat{
		{{3, 0, half}, {1, 0, half >> 2}},
		{{0, full - 1, half}, {full, half}},
		{{0, 0, half, half - 1}, {1, 0, half}},
		{{0, 0, 0, half}, {full, full, half}},
		{{0, 0, full, full - 1}, {full, full, full}},
		{{0, full, full, half - 1}, {full, 0, half}},
	} {
		whole(t, x[0], x[1])
	}
}

// P2.3, for one pair, and its answer against math/big.
func common(t *testing.T, a, b api.Nat) api.Nat {
	t.Helper()
	g := div.Gcd(a, b)
	if !isRight(g, new(big.Int).GCD(nil, nil, bigOf(a), bigOf(b))) || !slices.Equal(g, div.Gcd(b, a)) {
		t.Fatalf("Gcd of %v and %v: %v", a, b, g)
	}
	if len(g) == 0 {
		if len(a) != 0 || len(b) != 0 {
			t.Fatalf("Gcd of %v and %v is nought", a, b)
		}
		return g
	}
	for _, x := range []api.Nat{a, b} {
		if _, r, e := div.DivMod(x, g); e != api.OK || len(r) != 0 {
			t.Fatalf("Gcd of %v and %v: %v does not divide %v", a, b, g, x)
		}
	}
	return g
}

// P2.3: it divides both.
func TestGcdDivides(t *testing.T) {
	all := append(edges(), long()...)
	for _, a := range all {
		for _, b := range all {
			common(t, a, b)
		}
	}
}

// P2.3: what divides both divides it; of small numbers all, one by one.
func TestGcdSmall(t *testing.T) {
	for a := range uint64(40) {
		for b := range uint64(40) {
			g, ok := nat.Small(common(t, nat.Of(a), nat.Of(b)))
			for d := uint64(1); d <= 40; d++ {
				if !ok || a%d == 0 && b%d == 0 && g%d != 0 {
					t.Fatalf("Gcd of %d and %d: %d, but %d", a, b, g, d)
				}
			}
		}
	}
}

// P2.3: what divides both divides it; of great numbers what both were made of.
func TestGcdShares(t *testing.T) {
	m := mixed(362436069)
	for range 60 {
		for n := 1; n < 6; n++ {
			share, x, y := m.number(n), m.number(n+1), m.number(n+2)
			g := common(t, nat.Mul(share, x), nat.Mul(share, y))
			if _, r, e := div.DivMod(g, share); e != api.OK || len(r) != 0 {
				t.Fatalf("%v divides both, not %v", share, g)
			}
			if !slices.Equal(g, nat.Mul(share, div.Gcd(x, y))) {
				t.Fatalf("shares of %v and %v by %v: %v", x, y, share, g)
			}
		}
	}
}

// P2.1, B2: with nought, the other one.
func TestGcdOfNought(t *testing.T) {
	for _, nought := range []api.Nat{nil, {}} {
		for _, a := range append(edges(), long()...) {
			if g := div.Gcd(a, nought); !slices.Equal(g, a) {
				t.Errorf("Gcd of %v and nought: %v", a, g)
			}
			if g := div.Gcd(nought, a); !slices.Equal(g, a) {
				t.Errorf("Gcd of nought and %v: %v", a, g)
			}
		}
	}
}

// R1: a gcd that needs the most divisions for its length ends.
func TestGcdOfFibonacci(t *testing.T) {
	a, b := api.Nat{1}, api.Nat{1}
	for range 10000 {
		a, b = nat.Add(a, b), a
	}
	if g := div.Gcd(a, b); !slices.Equal(g, api.Nat{1}) {
		t.Errorf("Gcd: %v", g)
	}
}

// R4: neither what is handed in nor the room behind it is changed, and an answer is memory of its own.
func TestKeepsArguments(t *testing.T) {
	first, second := api.Nat{full, 3, 77, 78}, api.Nat{1, 2, 79, 80}
	rooms := [2]api.Nat{slices.Clone(first), slices.Clone(second)}
	a, b := rooms[0][:2], rooms[1][:2]
	var answers []api.Nat
	for _, pair := range [][2]api.Nat{{a, b}, {b, a}, {a, a}, {a, {1}}, {nil, a}, {a, nil}} {
		q, r, _ := div.DivMod(pair[0], pair[1])
		answers = append(answers, q, r, div.Gcd(pair[0], pair[1]))
	}
	for _, n := range []int{0, 1, 64, 65} {
		up, _ := div.Shl(a, n)
		down, _ := div.Shr(a, n)
		answers = append(answers, up, down)
	}
	copies := make([]api.Nat, len(answers))
	for i, x := range answers {
		copies[i] = slices.Clone(x)
	}
	for i, x := range answers { // whoever writes into one answer, all its room, changes no other one
		if !slices.Equal(x, copies[i]) {
			t.Errorf("answer %d shares memory with one ahead of it", i)
		}
		x = x[:cap(x)]
		for j := range x {
			x[j] = 99
		}
	}
	if !slices.Equal(rooms[0], first) || !slices.Equal(rooms[1], second) {
		t.Errorf("changed: %v", rooms)
	}
}

// No call panics, and all end, even at numbers that are not right.
func TestWrongNumbers(t *testing.T) {
	all := []api.Nat{nil, {}, {0}, {0, 0}, {1}, {1, 0}, {0, 1, 0}, {0, 0, 1}, {full, 0, 0}, {full, full}}
	for _, a := range all {
		for _, n := range []int{0, 1, 63, 64, 65, 200, api.MaxShift} {
			div.Shl(a, n)
			div.Shr(a, n)
		}
		for _, b := range all {
			div.DivMod(a, b)
			div.Gcd(a, b)
		}
	}
}
