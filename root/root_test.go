package root_test

import (
	"math"
	"math/big"
	"slices"
	"testing"

	"ratchet/api"
	"ratchet/nat"
	"ratchet/root"
)

const (
	full = 1<<64 - 1
	half = 1 << 63
)

// edges are all right numbers of at most three limbs whose limbs lie at an end or at the middle.
func edges() []api.Nat {
	ends := []uint64{0, 1, half - 1, half, full}
	all := []api.Nat{nil}
	for _, top := range ends[1:] {
		all = append(all, api.Nat{top})
		for _, mid := range ends {
			all = append(all, api.Nat{mid, top})
			for _, low := range ends {
				all = append(all, api.Nat{low, mid, top})
			}
		}
	}
	return all
}

// long are greater numbers of mixed limbs, the same in every run.
func long() []api.Nat {
	var all []api.Nat
	x := uint64(88172645463325252)
	for _, n := range []int{1, 2, 3, 4, 5, 9, 17, 40, 41} {
		a := make(api.Nat, n)
		for i := range a {
			x ^= x << 13
			x ^= x >> 7
			x ^= x << 17
			a[i] = x
		}
		a[n-1] |= 1
		all = append(all, a)
	}
	return all
}

// small are the first numbers, one by one.
func small() []api.Nat {
	var all []api.Nat
	for n := range uint64(70) {
		all = append(all, nat.Of(n))
	}
	return all
}

func bigOf(a api.Nat) *big.Int {
	n := new(big.Int)
	for _, x := range slices.Backward(a) {
		n.Lsh(n, 64).Or(n, new(big.Int).SetUint64(x))
	}
	return n
}

func bigPow(a *big.Int, k int) *big.Int {
	return new(big.Int).Exp(a, big.NewInt(int64(k)), nil)
}

func isRight(a api.Nat) bool {
	return len(a) == 0 || a[len(a)-1] != 0
}

func pow(t *testing.T, a api.Nat, k int) api.Nat {
	t.Helper()
	p, e := root.Pow(a, k)
	if e != api.OK || !isRight(p) {
		t.Fatalf("Pow of %v and %d: %v %v", a, k, p, e)
	}
	return p
}

func down(t *testing.T, a api.Nat, k int) api.Nat {
	t.Helper()
	r, e := root.Root(a, k)
	if e != api.OK || !isRight(r) {
		t.Fatalf("Root of %v and %d: %v %v", a, k, r, e)
	}
	return r
}

func up(t *testing.T, a api.Nat, k int) api.Nat {
	t.Helper()
	r, e := root.Up(a, k)
	if e != api.OK || !isRight(r) {
		t.Fatalf("Up of %v and %d: %v %v", a, k, r, e)
	}
	return r
}

// between is P3.2 for one number and exponent, with powers that math/big reckons, and what P3.1 says of Up: it is the least one.
func between(t *testing.T, a api.Nat, k int) {
	t.Helper()
	one, n := big.NewInt(1), bigOf(a)
	low, high := bigOf(down(t, a, k)), bigOf(up(t, a, k))
	more := new(big.Int).Add(low, one)
	if bigPow(low, k).Cmp(n) > 0 || bigPow(more, k).Cmp(n) <= 0 {
		t.Fatalf("Root of %v and %d: %v", a, k, low)
	}
	want := more
	if bigPow(low, k).Cmp(n) == 0 {
		want = low
	}
	if high.Cmp(want) != 0 {
		t.Fatalf("Up of %v and %d: %v, not %v", a, k, high, want)
	}
}

// P3.1: the chapter's example, and what stands beside it.
func TestExamples(t *testing.T) {
	for _, x := range []struct {
		a        api.Nat
		k        int
		low, top api.Nat
	}{
		{api.Nat{26}, 3, api.Nat{2}, api.Nat{3}},
		{api.Nat{27}, 3, api.Nat{3}, api.Nat{3}},
		{api.Nat{28}, 3, api.Nat{3}, api.Nat{4}},
		{nil, 1, nil, nil},
		{nil, 16, nil, nil},
		{api.Nat{1}, 16, api.Nat{1}, api.Nat{1}},
		{api.Nat{2}, 16, api.Nat{1}, api.Nat{2}},
		{api.Nat{65535}, 16, api.Nat{1}, api.Nat{2}},
		{api.Nat{65536}, 16, api.Nat{2}, api.Nat{2}},
		{api.Nat{65537}, 16, api.Nat{2}, api.Nat{3}},
		{api.Nat{7, 8}, 1, api.Nat{7, 8}, api.Nat{7, 8}},
		{api.Nat{full}, 2, api.Nat{1<<32 - 1}, api.Nat{1 << 32}},
		{api.Nat{0, 1}, 2, api.Nat{1 << 32}, api.Nat{1 << 32}},
		{api.Nat{full, full}, 2, api.Nat{full}, api.Nat{0, 1}},
		{api.Nat{0, 0, 1}, 2, api.Nat{0, 1}, api.Nat{0, 1}},
	} {
		if r := down(t, x.a, x.k); !slices.Equal(r, x.low) {
			t.Errorf("Root of %v and %d: %v", x.a, x.k, r)
		}
		if r := up(t, x.a, x.k); !slices.Equal(r, x.top) {
			t.Errorf("Up of %v and %d: %v", x.a, x.k, r)
		}
	}
	for _, x := range []struct {
		a    api.Nat
		k    int
		want api.Nat
	}{
		{api.Nat{3}, 3, api.Nat{27}},
		{api.Nat{3}, 1, api.Nat{3}},
		{nil, 1, nil},
		{nil, 16, nil},
		{api.Nat{1}, 16, api.Nat{1}},
		{api.Nat{16}, 15, api.Nat{1 << 60}},
		{api.Nat{16}, 16, api.Nat{0, 1}},
		{api.Nat{full}, 2, api.Nat{1, full - 1}},
	} {
		if p := pow(t, x.a, x.k); !slices.Equal(p, x.want) {
			t.Errorf("Pow of %v and %d: %v", x.a, x.k, p)
		}
	}
}

// P3.1: Pow against math/big.
func TestPow(t *testing.T) {
	for _, a := range slices.Concat(small(), edges(), long()) {
		for k := 1; k <= api.MaxRoot; k++ {
			if p := pow(t, a, k); bigOf(p).Cmp(bigPow(bigOf(a), k)) != 0 {
				t.Fatalf("Pow of %v and %d: %v", a, k, p)
			}
		}
	}
}

// P3.1: the edges of what an exponent is.
func TestNoExponent(t *testing.T) {
	calls := map[string]func(api.Nat, int) (api.Nat, api.Errno){"Pow": root.Pow, "Root": root.Root, "Up": root.Up}
	for name, call := range calls {
		for _, a := range []api.Nat{nil, {}, {1}, {5, 6}} {
			for _, k := range []int{0, -1, -16, math.MinInt, api.MaxRoot + 1, 1 << 32, math.MaxInt} {
				if l, e := call(a, k); e != api.ErrArg || len(l) != 0 {
					t.Errorf("%s of %v and %d: %v %v", name, a, k, l, e)
				}
			}
			for _, k := range []int{1, api.MaxRoot} {
				if _, e := call(a, k); e != api.OK {
					t.Errorf("%s of %v and %d: %v", name, a, k, e)
				}
			}
		}
	}
}

// P3.1 and P3.2, at small numbers, edges, and long ones.
func TestBetween(t *testing.T) {
	for _, a := range slices.Concat(small(), edges(), long()) {
		for k := 1; k <= api.MaxRoot; k++ {
			between(t, a, k)
		}
	}
}

// P3.1 and P3.2: powers, and the numbers beside them, where a root steps up.
func TestBesidePowers(t *testing.T) {
	one := api.Nat{1}
	for _, b := range slices.Concat(small(), edges(), long()[:6])[1:] {
		for k := 1; k <= api.MaxRoot; k++ {
			p := pow(t, b, k)
			less, _ := nat.Sub(p, one)
			between(t, less, k)
			between(t, p, k)
			between(t, nat.Add(p, one), k)
		}
	}
}

// P3.1 and P3.2: powers of 2, and the numbers ahead of them: as many binary figures as there can be, and the fewest, of every exponent's share.
func TestPowersOfTwo(t *testing.T) {
	for n := range 200 {
		p := make(api.Nat, n/64+1)
		p[n/64] = 1 << (n % 64)
		less, _ := nat.Sub(p, api.Nat{1})
		for k := 1; k <= api.MaxRoot; k++ {
			between(t, p, k)
			between(t, less, k)
		}
	}
}

// P3.2: roots that are greater than the power of 2 of any shift.
func TestBeyondShifts(t *testing.T) {
	b := make(api.Nat, api.MaxShift/64+5)
	for i := range b {
		b[i] = uint64(i) * 0x9e3779b97f4a7c15
	}
	for k := 1; k <= 3; k++ {
		p := pow(t, b, k)
		if r := down(t, p, k); !slices.Equal(r, b) {
			t.Errorf("exponent %d: the root of a power is another one", k)
		}
		between(t, nat.Add(p, api.Nat{1}), k)
	}
}

// P3.3: back.
func TestBack(t *testing.T) {
	for _, a := range slices.Concat(small(), edges(), long()) {
		for k := 1; k <= api.MaxRoot; k++ {
			p := pow(t, a, k)
			if r := down(t, p, k); !slices.Equal(r, a) {
				t.Fatalf("Root of the power of %v and %d: %v", a, k, r)
			}
			if r := up(t, p, k); !slices.Equal(r, a) {
				t.Fatalf("Up of the power of %v and %d: %v", a, k, r)
			}
		}
	}
}

// P3.3: roots keep the order.
func TestOrder(t *testing.T) {
	all := slices.Concat(small(), edges(), long())
	slices.SortFunc(all, nat.Cmp)
	for k := 1; k <= api.MaxRoot; k++ {
		for i := range len(all) - 1 {
			a, b := all[i], all[i+1]
			if nat.Cmp(down(t, a, k), down(t, b, k)) > 0 || nat.Cmp(up(t, a, k), up(t, b, k)) > 0 {
				t.Fatalf("order of %v and %v, exponent %d", a, b, k)
			}
		}
	}
}

// R4: neither what is handed in nor the room behind it is changed, and an answer is memory of its own.
func TestKeepsArguments(t *testing.T) {
	first := api.Nat{full, 3, 77, 78}
	room := slices.Clone(first)
	var answers []api.Nat
	for _, a := range []api.Nat{room[:2], room[:1], room[:0]} {
		for _, k := range []int{1, 2, 3, api.MaxRoot, 0} {
			p, _ := root.Pow(a, k)
			r, _ := root.Root(a, k)
			u, _ := root.Up(a, k)
			answers = append(answers, p, r, u)
		}
	}
	copies := make([]api.Nat, len(answers))
	for i, x := range answers {
		copies[i] = slices.Clone(x)
	}
	for i, x := range answers { // whoever writes into one answer, all its room, changes no other one
		if !slices.Equal(x, copies[i]) {
			t.Errorf("answer %d shares memory with one ahead of it", i)
		}
		x = x[:cap(x)]
		for j := range x {
			x[j] = 99
		}
	}
	if !slices.Equal(room, first) {
		t.Errorf("changed: %v", room)
	}
}

// R4: nil and the empty list are the same.
func TestNothing(t *testing.T) {
	for k := 1; k <= api.MaxRoot; k++ {
		for _, a := range []api.Nat{nil, {}} {
			if len(pow(t, a, k)) != 0 || len(down(t, a, k)) != 0 || len(up(t, a, k)) != 0 {
				t.Errorf("nought and %d", k)
			}
		}
	}
}

// No call panics, and all end, even at numbers that are not right.
func TestWrongNumbers(t *testing.T) {
	all := []api.Nat{{0}, {0, 0}, {1, 0}, {0, 1, 0}, {full, 0, 0}, append(api.Nat{5}, make(api.Nat, 3000)...), make(api.Nat, 3000)}
	for _, a := range all {
		for k := -1; k <= api.MaxRoot+1; k++ {
			root.Root(a, k)
			root.Up(a, k)
		}
		root.Pow(a, 2)
	}
}
