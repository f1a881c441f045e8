package nat_test

import (
	"math/big"
	"slices"
	"testing"

	"ratchet/api"
	"ratchet/nat"
)

const full = 1<<64 - 1

// edges are all right numbers of at most three limbs whose limbs lie at an end, so that carries and borrows run through every place.
func edges() []api.Nat {
	ends := []uint64{0, 1, 1 << 63, full}
	all := []api.Nat{nil}
	for _, top := range ends[1:] {
		all = append(all, api.Nat{top})
		for _, mid := range ends {
			all = append(all, api.Nat{mid, top})
			for _, low := range ends {
				all = append(all, api.Nat{low, mid, top})
			}
		}
	}
	return all
}

// long are greater numbers of mixed limbs, the same in every run.
func long() []api.Nat {
	var all []api.Nat
	x := uint64(88172645463325252)
	for _, n := range []int{4, 5, 9, 17, 40, 41} {
		a := make(api.Nat, n)
		for i := range a {
			x ^= x << 13
			x ^= x >> 7
			x ^= x << 17
			a[i] = x
		}
		a[n-1] |= 1
		all = append(all, a)
	}
	return all
}

func bigOf(a api.Nat) *big.Int {
	n := new(big.Int)
	for _, x := range slices.Backward(a) {
		n.Lsh(n, 64).Or(n, new(big.Int).SetUint64(x))
	}
	return n
}

func is(t *testing.T, what string, a, b, got api.Nat, want *big.Int) {
	t.Helper()
	if bigOf(got).Cmp(want) != 0 || len(got) > 0 && got[len(got)-1] == 0 {
		t.Fatalf("%s of %v and %v: %v, not %v", what, a, b, got, want)
	}
}

// P1.1, A1.
func TestRight(t *testing.T) {
	for _, a := range []api.Nat{nil, {}, {1}, {full}, {0, 1}, {0, 0, 5}} {
		if !nat.Right(a) {
			t.Errorf("%v is right", a)
		}
	}
	for _, a := range []api.Nat{{0}, {1, 0}, {0, 0}, {0, 1, 0}} {
		if nat.Right(a) {
			t.Errorf("%v is not right", a)
		}
	}
}

// P1.1, A1.
func TestOfAndSmall(t *testing.T) {
	for _, n := range []uint64{0, 1, 2, 1 << 32, 1 << 63, full} {
		a := nat.Of(n)
		is(t, "Of", nil, nil, a, new(big.Int).SetUint64(n))
		if m, ok := nat.Small(a); m != n || !ok {
			t.Errorf("Small of %v: %d %v", a, m, ok)
		}
	}
	for _, a := range []api.Nat{{0, 1}, {7, 1}, {full, full}, {0, 0, 1}} {
		if m, ok := nat.Small(a); m != 0 || ok {
			t.Errorf("Small of %v: %d %v", a, m, ok)
		}
	}
	if m, ok := nat.Small(api.Nat{}); m != 0 || !ok {
		t.Errorf("Small of nothing: %d %v", m, ok)
	}
}

// P1.1, A1.
func TestBits(t *testing.T) {
	for _, a := range append(edges(), long()...) {
		if n := nat.Bits(a); n != bigOf(a).BitLen() {
			t.Errorf("Bits of %v: %d", a, n)
		}
	}
	for n := range 64 {
		if nat.Bits(api.Nat{1 << n}) != n+1 || nat.Bits(api.Nat{full, 1 << n}) != n+65 {
			t.Errorf("Bits at %d", n)
		}
	}
}

// P1.1, A1 and A2.
func TestAgainstBig(t *testing.T) {
	all := append(edges(), long()...)
	for _, a := range all {
		for _, b := range all {
			x, y := bigOf(a), bigOf(b)
			if c := nat.Cmp(a, b); c != x.Cmp(y) {
				t.Fatalf("Cmp of %v and %v: %d", a, b, c)
			}
			is(t, "Add", a, b, nat.Add(a, b), new(big.Int).Add(x, y))
			is(t, "Mul", a, b, nat.Mul(a, b), new(big.Int).Mul(x, y))
			d, e := nat.Sub(a, b)
			if x.Cmp(y) < 0 {
				if len(d) != 0 || e != api.ErrRange {
					t.Fatalf("Sub of %v and %v: %v %v", a, b, d, e)
				}
				continue
			}
			if e != api.OK {
				t.Fatalf("Sub of %v and %v: %v", a, b, e)
			}
			is(t, "Sub", a, b, d, new(big.Int).Sub(x, y))
		}
	}
}

// P1.1, A2: the chapter's example, and what stands beside it.
func TestExamples(t *testing.T) {
	if s := nat.Add(api.Nat{full}, api.Nat{1}); !slices.Equal(s, api.Nat{0, 1}) {
		t.Errorf("2^64 - 1 and 1: %v", s)
	}
	if d, e := nat.Sub(api.Nat{0, 1}, api.Nat{1}); e != api.OK || !slices.Equal(d, api.Nat{full}) {
		t.Errorf("2^64 less 1: %v %v", d, e)
	}
	if d, e := nat.Sub(nil, api.Nat{1}); e != api.ErrRange || len(d) != 0 {
		t.Errorf("0 less 1: %v %v", d, e)
	}
	if d, e := nat.Sub(api.Nat{full}, api.Nat{0, 1}); e != api.ErrRange || len(d) != 0 {
		t.Errorf("2^64 - 1 less 2^64: %v %v", d, e)
	}
	if p := nat.Mul(api.Nat{full}, api.Nat{full}); !slices.Equal(p, api.Nat{1, full - 1}) {
		t.Errorf("2^64 - 1 squared: %v", p)
	}
}

// P1.2.
func TestRing(t *testing.T) {
	all := edges()
	for _, a := range all {
		for _, b := range all {
			sum, product := nat.Add(a, b), nat.Mul(a, b)
			if !slices.Equal(sum, nat.Add(b, a)) || !slices.Equal(product, nat.Mul(b, a)) {
				t.Fatalf("order: %v %v", a, b)
			}
			if d, e := nat.Sub(sum, b); e != api.OK || !slices.Equal(d, a) {
				t.Fatalf("taken back: %v %v: %v %v", a, b, d, e)
			}
			for _, c := range all {
				if !slices.Equal(nat.Add(sum, c), nat.Add(a, nat.Add(b, c))) {
					t.Fatalf("brackets of sums: %v %v %v", a, b, c)
				}
				if !slices.Equal(nat.Mul(product, c), nat.Mul(a, nat.Mul(b, c))) {
					t.Fatalf("brackets of products: %v %v %v", a, b, c)
				}
				if !slices.Equal(nat.Mul(sum, c), nat.Add(nat.Mul(a, c), nat.Mul(b, c))) {
					t.Fatalf("product of a sum: %v %v %v", a, b, c)
				}
			}
		}
	}
}

// P1.3.
func TestOrder(t *testing.T) {
	all := edges()
	for _, a := range all {
		for _, b := range all {
			ab := nat.Cmp(a, b)
			if ab != -nat.Cmp(b, a) || (ab == 0) != slices.Equal(a, b) {
				t.Fatalf("sides: %v %v", a, b)
			}
			for _, c := range all {
				if ab <= 0 && nat.Cmp(b, c) <= 0 && nat.Cmp(a, c) > 0 {
					t.Fatalf("in a row: %v %v %v", a, b, c)
				}
				if nat.Cmp(nat.Add(a, c), nat.Add(b, c)) != ab {
					t.Fatalf("sums: %v %v %v", a, b, c)
				}
			}
		}
	}
}

// R4: neither what is handed in nor the room behind it is changed, and an answer is memory of its own.
func TestKeepsArguments(t *testing.T) {
	rooms := [2]api.Nat{{full, 3, 77, 78}, {1, 2, 79, 80}}
	a, b := rooms[0][:2], rooms[1][:2]
	less, _ := nat.Sub(a, b)
	whole, _ := nat.Sub(a, nil)
	answers := []api.Nat{nat.Add(a, b), nat.Add(a, nil), nat.Add(nil, a), less, whole, nat.Mul(a, b), nat.Mul(a, api.Nat{1})}
	nat.Sub(b, a)
	nat.Cmp(a, b)
	for _, x := range answers {
		x = x[:cap(x)]
		for i := range x {
			x[i] = 99
		}
	}
	if !slices.Equal(rooms[0], api.Nat{full, 3, 77, 78}) || !slices.Equal(rooms[1], api.Nat{1, 2, 79, 80}) {
		t.Errorf("changed: %v", rooms)
	}
}

// R4: nil and the empty list are the same.
func TestNothing(t *testing.T) {
	for _, x := range []api.Nat{nil, {}} {
		for _, y := range []api.Nat{nil, {}} {
			d, e := nat.Sub(x, y)
			if len(nat.Add(x, y)) != 0 || len(nat.Mul(x, y)) != 0 || len(d) != 0 || e != api.OK || nat.Cmp(x, y) != 0 {
				t.Error("nothing and nothing")
			}
		}
		if len(nat.Mul(x, api.Nat{1, 2})) != 0 || len(nat.Mul(api.Nat{1, 2}, x)) != 0 || nat.Bits(x) != 0 {
			t.Error("nothing")
		}
	}
}

// No call panics, even at numbers that are not right.
func TestWrongNumbers(t *testing.T) {
	all := []api.Nat{nil, {}, {0}, {0, 0}, {1}, {1, 0}, {0, 1, 0}, {full, 0, 0}, {full, full}}
	for _, a := range all {
		nat.Bits(a)
		nat.Small(a)
		nat.Right(a)
		for _, b := range all {
			nat.Cmp(a, b)
			nat.Add(a, b)
			nat.Sub(a, b)
			nat.Mul(a, b)
		}
	}
}
