package fix_test

import (
	"math"
	"math/big"
	"slices"
	"testing"

	"ratchet/api"
	"ratchet/fix"
)

const (
	most  = math.MaxInt64
	least = math.MinInt64
	full  = 1<<64 - 1
	half  = 1 << 63
)

// fracs are fs that are there, at both ends, where bytes end, and where a half of a limb does.
func fracs() []int {
	return []int{0, 1, 2, 7, 8, 31, 32, 33, 39, api.MaxFrac}
}

// noFracs are fs that are not there; some of them would be shifts or grids.
func noFracs() []int {
	return []int{-1, -2, -40, -64, math.MinInt, api.MaxFrac + 1, 63, 64, 65, api.MaxDyad, api.MaxDyad + 1, api.MaxShift, math.MaxInt}
}

// few are the mantissas of which every three are taken.
func few() []int64 {
	return []int64{least, least + 1, -1 << 62, -3037000500, -1<<31 - 1, -7, -3, -2, -1, 0, 1, 2, 3, 5, 1 << 20, 1<<32 - 1, 3037000499, 1 << 62, 1<<62 + 1, most - 1, most}
}

// edges are the mantissas of which every two are taken: small ones, those beside powers of 2 and at both ends, and mixed ones; rising.
func edges() []int64 {
	all := few()
	for n := int64(0); n <= 12; n++ {
		all = append(all, n, -n, most-n, least+n)
	}
	for _, k := range []int{7, 8, 16, 31, 32, 33, 39, 40, 41, 62} {
		p := int64(1) << k
		all = append(all, p-1, p, p+1, 3*(p/2), 1-p, -p, -1-p)
	}
	x := uint64(88172645463325252)
	for i := range 24 {
		x ^= x << 13
		x ^= x >> 7
		x ^= x << 17
		all = append(all, int64(x)>>(2*i))
	}
	slices.Sort(all)
	return slices.Compact(all)
}

func bigNat(a api.Nat) *big.Int {
	n := new(big.Int)
	for _, x := range slices.Backward(a) {
		n.Lsh(n, 64).Or(n, new(big.Int).SetUint64(x))
	}
	return n
}

func natOf(n *big.Int) api.Nat {
	var a api.Nat
	low := new(big.Int).SetUint64(full)
	for n = new(big.Int).Abs(n); n.Sign() > 0; n.Rsh(n, 64) {
		a = append(a, new(big.Int).And(n, low).Uint64())
	}
	return a
}

func bigRat(a api.Rat) *big.Rat {
	top := bigNat(a.P.N)
	if a.P.Neg {
		top.Neg(top)
	}
	return new(big.Rat).SetFrac(top, bigNat(a.Q))
}

func ratOf(x *big.Rat) api.Rat {
	return api.Rat{P: api.Zed{Neg: x.Sign() < 0, N: natOf(x.Num())}, Q: natOf(x.Denom())}
}

func sameRat(a, b api.Rat) bool {
	return a.P.Neg == b.P.Neg && slices.Equal(a.P.N, b.P.N) && slices.Equal(a.Q, b.Q)
}

func whole(n int64) *big.Rat {
	return new(big.Rat).SetInt64(n)
}

// raised is x times 2 to the power of n, which may be below 0.
func raised(x *big.Rat, n int) *big.Rat {
	power := new(big.Rat).SetInt(new(big.Int).Lsh(big.NewInt(1), uint(max(n, -n))))
	if n < 0 {
		power.Inv(power)
	}
	return power.Mul(power, x)
}

// number is that of a mantissa.
func number(a int64, f int) *big.Rat {
	return raised(whole(a), -f)
}

// floor is reckoned by math/big: its Div goes down whenever the divisor is above nought.
func floor(x *big.Rat) *big.Int {
	return new(big.Int).Div(x.Num(), x.Denom())
}

// near goes half a step up and then down; of two as near that is the upper one.
func near(x *big.Rat) *big.Int {
	up := new(big.Rat).Add(x, big.NewRat(1, 2))
	n := floor(up)
	if up.IsInt() && n.Bit(0) == 1 {
		n.Sub(n, big.NewInt(1))
	}
	return n
}

// wanted is what is to be told of so many steps.
func wanted(steps *big.Rat) (int64, api.Errno) {
	n := near(steps)
	if !n.IsInt64() {
		return 0, api.ErrRange
	}
	return n.Int64(), api.OK
}

// An operation is one of the calls that take two mantissas, and what it is of their numbers. Whole ones have no f: they are taken with each as if they had.
type operation struct {
	name  string
	tell  func(a, b int64, f int) (int64, api.Errno)
	exact func(x, y *big.Rat) *big.Rat
	whole bool
	parts bool
}

func operations() []operation {
	return []operation{
		{"Add", func(a, b int64, _ int) (int64, api.Errno) { return fix.Add(a, b) },
			func(x, y *big.Rat) *big.Rat { return new(big.Rat).Add(x, y) }, true, false},
		{"Sub", func(a, b int64, _ int) (int64, api.Errno) { return fix.Sub(a, b) },
			func(x, y *big.Rat) *big.Rat { return new(big.Rat).Sub(x, y) }, true, false},
		{"Mul", fix.Mul, func(x, y *big.Rat) *big.Rat { return new(big.Rat).Mul(x, y) }, false, false},
		{"Div", fix.Div, func(x, y *big.Rat) *big.Rat { return new(big.Rat).Quo(x, y) }, false, true},
	}
}

// able says whether b may be taken at all.
func (o operation) able(b int64) bool {
	return !o.parts || b != 0
}

// steps is what an operation is of the numbers of a and b, in steps.
func (o operation) steps(a, b int64, f int) *big.Rat {
	return raised(o.exact(number(a, f), number(b, f)), f)
}

// scaled is a times n by d.
func scaled(a, n, d int64) *big.Rat {
	x := new(big.Rat).Mul(whole(a), whole(n))
	return x.Quo(x, whole(d))
}

// rationals are such as lie at steps of f, at middles between two of these, closely beside both, and far off; with the ends of what a mantissa holds; rising.
func rationals(f int) []*big.Rat {
	var all []*big.Rat
	for _, n := range edges() {
		for _, x := range []*big.Rat{whole(n), new(big.Rat).Add(whole(n), big.NewRat(1, 2)), new(big.Rat).Sub(whole(n), big.NewRat(1, 2))} {
			x = raised(x, -f)
			beside := raised(big.NewRat(1, 3), -f-130)
			all = append(all, x, new(big.Rat).Add(x, beside), new(big.Rat).Sub(x, beside))
		}
	}
	limbs := []api.Nat{{1}, {3}, {half}, {full}, {0, 1}, {5, full}, {0, 0, 1}, {7, 8, 9, 10, 11}}
	for _, p := range limbs {
		for _, q := range limbs {
			x := new(big.Rat).SetFrac(bigNat(p), bigNat(q))
			all = append(all, x, new(big.Rat).Neg(x))
		}
	}
	slices.SortFunc(all, (*big.Rat).Cmp)
	return all
}

// P8.1, H1: what Add and Sub tell of single mantissas.
func TestSumsOfSingles(t *testing.T) {
	for _, x := range []struct {
		a, b, sum int64
		e         api.Errno
		rest      int64
		r         api.Errno
	}{
		{0, 0, 0, 0, 0, 0},
		{5, 7, 12, 0, -2, 0},
		{-5, 7, 2, 0, -12, 0},
		{most, 0, most, 0, most, 0},
		{most, 1, 0, api.ErrRange, most - 1, 0},
		{most, -1, most - 1, 0, 0, api.ErrRange},
		{most, most, 0, api.ErrRange, 0, 0},
		{most, least, -1, 0, 0, api.ErrRange},
		{least, 0, least, 0, least, 0},
		{least, 1, least + 1, 0, 0, api.ErrRange},
		{least, -1, 0, api.ErrRange, least + 1, 0},
		{least, least, 0, api.ErrRange, 0, 0},
		{0, least, least, 0, 0, api.ErrRange},
		{-1, least, 0, api.ErrRange, most, 0},
		{1 << 62, 1 << 62, 0, api.ErrRange, 0, 0},
		{-1 << 62, -1 << 62, least, 0, 0, 0},
		{-1 << 62, 1 << 62, 0, 0, least, 0},
		{-1<<62 - 1, 1 << 62, -1, 0, 0, api.ErrRange},
	} {
		if c, e := fix.Add(x.a, x.b); c != x.sum || e != x.e {
			t.Errorf("Add of %d and %d: %d %d", x.a, x.b, c, e)
		}
		if c, e := fix.Sub(x.a, x.b); c != x.rest || e != x.r {
			t.Errorf("Sub of %d and %d: %d %d", x.a, x.b, c, e)
		}
	}
}

// P8.1, H1: what Mul tells of single mantissas, with the chapter's example.
func TestMulOfSingles(t *testing.T) {
	for _, x := range []struct {
		a, b int64
		f    int
		want int64
		e    api.Errno
	}{
		{3, 3, 1, 4, 0}, // the chapter's
		{-3, 3, 1, -4, 0},
		{-3, -3, 1, 4, 0},
		{0, 0, 0, 0, 0},
		{0, -5, 8, 0, 0},
		{least, 0, 40, 0, 0},
		{1, 1, 1, 0, 0},
		{-1, 1, 1, 0, 0},
		{1, 3, 1, 2, 0},
		{-1, 3, 1, -2, 0},
		{5, 1, 1, 2, 0},
		{7, 1, 1, 4, 0},
		{1, 1, 2, 0, 0},
		{3, 1, 2, 1, 0},
		{-3, 1, 2, -1, 0},
		{256, 7, 8, 7, 0},
		{127, 1, 8, 0, 0},
		{128, 1, 8, 0, 0},
		{129, 1, 8, 1, 0},
		{128, 3, 8, 2, 0},
		{most, 1, 0, most, 0},
		{most, -1, 0, least + 1, 0},
		{least, 1, 0, least, 0},
		{least, -1, 0, 0, api.ErrRange},
		{most, most, 0, 0, api.ErrRange},
		{least, least, 40, 0, api.ErrRange},
		{1 << 62, 2, 0, 0, api.ErrRange},
		{1 << 62, -2, 0, least, 0},
		{1 << 62, 4, 1, 0, api.ErrRange},
		{1 << 51, 1 << 51, 40, 1 << 62, 0},
		{1 << 51, 1 << 52, 40, 0, api.ErrRange},
		{-1 << 51, 1 << 52, 40, least, 0},
		// These products are 2^64 - 1: the middle above the greatest mantissa is as near to one that is not there.
		{4294967297, 4294967295, 1, 0, api.ErrRange},
		{-4294967297, 4294967295, 1, least, 0},
	} {
		if c, e := fix.Mul(x.a, x.b, x.f); c != x.want || e != x.e {
			t.Errorf("Mul of %d and %d, f %d: %d %d", x.a, x.b, x.f, c, e)
		}
	}
}

// P8.1, H1: what Div tells of single mantissas.
func TestDivOfSingles(t *testing.T) {
	for _, x := range []struct {
		a, b int64
		f    int
		want int64
		e    api.Errno
	}{
		{6, 3, 0, 2, 0},
		{1, 2, 0, 0, 0},
		{3, 2, 0, 2, 0},
		{-3, 2, 0, -2, 0},
		{5, -2, 0, -2, 0},
		{-5, -2, 0, 2, 0},
		{7, 2, 0, 4, 0},
		{1, 3, 8, 85, 0},
		{2, 3, 8, 171, 0},
		{-2, 3, 8, -171, 0},
		{1, 512, 8, 0, 0},
		{3, 512, 8, 2, 0},
		{0, -9, 40, 0, 0},
		{most, 1, 0, most, 0},
		{most, -1, 0, least + 1, 0},
		{least, 1, 0, least, 0},
		{least, -1, 0, 0, api.ErrRange},
		{least, least, 40, 1 << 40, 0},
		{most, least, 40, -1 << 40, 0},
		{1, least, 40, 0, 0},
		{1 << 22, least, 40, 0, 0},
		{1<<22 + 1, least, 40, -1, 0},
		{3 << 22, least, 40, -2, 0},
		{1 << 22, 1, 40, 1 << 62, 0},
		{1 << 23, 1, 40, 0, api.ErrRange},
		{-1 << 23, 1, 40, least, 0},
		{1 << 23, -1, 40, least, 0},
		{most, 1, 40, 0, api.ErrRange},
		{least, 1, 40, 0, api.ErrRange},
		{most, 2, 1, most, 0},
	} {
		if c, e := fix.Div(x.a, x.b, x.f); c != x.want || e != x.e {
			t.Errorf("Div of %d and %d, f %d: %d %d", x.a, x.b, x.f, c, e)
		}
	}
}

// P8.1, H1: what Scale tells of single mantissas.
func TestScaleOfSingles(t *testing.T) {
	for _, x := range []struct {
		a, n, d, want int64
		e             api.Errno
	}{
		{100, 4, 16, 25, 0},
		{1, 1, 2, 0, 0},
		{3, 1, 2, 2, 0},
		{-3, 1, 2, -2, 0},
		{3, -1, 2, -2, 0},
		{-3, -1, 2, 2, 0},
		{5, 1, 2, 2, 0},
		{10, 1, 3, 3, 0},
		{10, 2, 3, 7, 0},
		{0, least, 7, 0, 0},
		{least, 0, most, 0, 0},
		{most, most, most, most, 0},
		{least, most, most, least, 0},
		{least, least, most, 0, api.ErrRange},
		{most, 1, 1, most, 0},
		{least, 1, 1, least, 0},
		{least, -1, 1, 0, api.ErrRange},
		{least, -1, 2, 1 << 62, 0},
		{most, 2, 1, 0, api.ErrRange},
		{least, least, 1, 0, api.ErrRange},
		{1 << 62, 1, most, 1, 0},
		{1<<62 - 1, 1, most, 0, 0},
		{most - 2, 1, most - 1, 1, 0},
		{1 << 61, 1, 1 << 62, 0, 0},
		{1<<61 + 1, 1, 1 << 62, 1, 0},
		{3 << 61, -1, 1 << 62, -2, 0},
		// One less than 2^64, by 2, is in the middle above the greatest.
		{4294967297, 4294967295, 2, 0, api.ErrRange},
		{4294967297, -4294967295, 2, least, 0},
	} {
		if c, e := fix.Scale(x.a, x.n, x.d); c != x.want || e != x.e {
			t.Errorf("Scale of %d, %d and %d: %d %d", x.a, x.n, x.d, c, e)
		}
	}
}

// P8.1, H1: Add, Sub, Mul and Div against math/big, of all two edges.
func TestOperations(t *testing.T) {
	for _, o := range operations() {
		for _, f := range fracs() {
			for _, a := range edges() {
				for _, b := range edges() {
					if !o.able(b) {
						continue
					}
					want, wrong := wanted(o.steps(a, b, f))
					if c, e := o.tell(a, b, f); c != want || e != wrong {
						t.Fatalf("%s of %d and %d, f %d: %d %d, not %d %d", o.name, a, b, f, c, e, want, wrong)
					}
				}
			}
		}
	}
}

// P8.1, H1: Scale against math/big, of all three of a few edges.
func TestScale(t *testing.T) {
	for _, a := range edges() {
		for _, n := range few() {
			for _, d := range few() {
				if d < 1 {
					continue
				}
				want, wrong := wanted(scaled(a, n, d))
				if c, e := fix.Scale(a, n, d); c != want || e != wrong {
					t.Fatalf("Scale of %d, %d and %d: %d %d, not %d %d", a, n, d, c, e, want, wrong)
				}
			}
		}
	}
}

// P8.1, H1: of two as near it is the even one, on both sides, with each f that is there.
func TestMiddles(t *testing.T) {
	for f := 1; f <= api.MaxFrac; f++ {
		one, step := int64(1)<<f, int64(1)<<(f-1)
		for n := int64(-9); n <= 9; n++ {
			odd := 2*n + 1 // halves of a step
			even := n + n&1
			if c, e := fix.Mul(odd, step, f); c != even || e != api.OK {
				t.Errorf("Mul of %d and %d, f %d: %d %d, not %d", odd, step, f, c, e, even)
			}
			if c, e := fix.Div(odd, 2*one, f); c != even || e != api.OK {
				t.Errorf("Div of %d and %d, f %d: %d %d, not %d", odd, 2*one, f, c, e, even)
			}
			if c, e := fix.Scale(odd, step, one); c != even || e != api.OK {
				t.Errorf("Scale of %d, %d and %d: %d %d, not %d", odd, step, one, c, e, even)
			}
			if c, e := fix.Of(ratOf(number(odd, f+1)), f); c != even || e != api.OK {
				t.Errorf("Of %d halves of a step, f %d: %d %d, not %d", odd, f, c, e, even)
			}
		}
	}
}

// P8.1, H1: Of against math/big, at steps, at middles, beside these and far off.
func TestOf(t *testing.T) {
	for _, f := range fracs() {
		for _, x := range rationals(f) {
			want, wrong := wanted(raised(x, f))
			if c, e := fix.Of(ratOf(x), f); c != want || e != wrong {
				t.Fatalf("Of %v, f %d: %d %d, not %d %d", x, f, c, e, want, wrong)
			}
		}
	}
}

// P8.1, H1: where what Of tells ends, on both sides: the last middle is as near to one that is not there, above; below, to the least one.
func TestEndsOfOf(t *testing.T) {
	above := new(big.Rat).Add(whole(most), big.NewRat(1, 2))
	below := new(big.Rat).Sub(whole(least), big.NewRat(1, 2))
	tiny := raised(whole(1), -100)
	for f := range api.MaxFrac + 1 {
		for _, x := range []struct {
			steps *big.Rat
			want  int64
			e     api.Errno
		}{
			{whole(most), most, 0},
			{new(big.Rat).Sub(above, tiny), most, 0},
			{above, 0, api.ErrRange},
			{whole(least), least, 0},
			{below, least, 0},
			{new(big.Rat).Sub(below, tiny), 0, api.ErrRange},
			{raised(whole(1), 300), 0, api.ErrRange},
			{raised(whole(-1), 300), 0, api.ErrRange},
		} {
			if c, e := fix.Of(ratOf(raised(x.steps, -f)), f); c != x.want || e != x.e {
				t.Errorf("Of %v steps, f %d: %d %d", x.steps, f, c, e)
			}
		}
	}
}

// P8.1, H2: what Sqrt tells of single mantissas.
func TestSqrtOfSingles(t *testing.T) {
	for _, x := range []struct {
		a    int64
		f    int
		want int64
	}{
		{0, 0, 0}, {0, 40, 0}, {1, 0, 1}, {2, 0, 1}, {3, 0, 1}, {4, 0, 2}, {8, 0, 2}, {9, 0, 3},
		{1, 1, 1}, {2, 1, 2}, {1, 2, 2}, {256, 8, 256}, {512, 8, 362}, {64, 8, 128}, {1, 8, 16}, {2, 8, 22},
		{1, 40, 1 << 20}, {most, 0, 3037000499}, {3037000499 * 3037000499, 0, 3037000499}, {3037000499*3037000499 - 1, 0, 3037000498},
	} {
		if c, e := fix.Sqrt(x.a, x.f); c != x.want || e != api.OK {
			t.Errorf("Sqrt of %d, f %d: %d %d, not %d", x.a, x.f, c, e, x.want)
		}
	}
}

// P8.1, H2: Sqrt is the greatest whose number's square is at most a's, at edges and at squares and beside them.
func TestSqrt(t *testing.T) {
	for f := range api.MaxFrac + 1 {
		all := edges()
		for _, m := range edges() {
			square := floor(new(big.Rat).SetFrac(new(big.Int).Mul(big.NewInt(m), big.NewInt(m)), new(big.Int).Lsh(big.NewInt(1), uint(f))))
			if square.IsInt64() && square.Int64() < most {
				all = append(all, square.Int64()-1, square.Int64(), square.Int64()+1)
			}
		}
		for _, a := range all {
			if a < 0 {
				continue
			}
			c, e := fix.Sqrt(a, f)
			low, high := number(c, f), number(c+1, f)
			if e != api.OK || c < 0 || low.Mul(low, low).Cmp(number(a, f)) > 0 || high.Mul(high, high).Cmp(number(a, f)) <= 0 {
				t.Fatalf("Sqrt of %d, f %d: %d %d", a, f, c, e)
			}
		}
	}
}

// P8.1, H2: Rat is a's number, right; Of takes it back.
func TestRat(t *testing.T) {
	for f := range api.MaxFrac + 1 {
		for _, a := range edges() {
			r, e := fix.Rat(a, f)
			if want := ratOf(number(a, f)); e != api.OK || !sameRat(r, want) {
				t.Fatalf("Rat of %d, f %d: %v %d, not %v", a, f, r, e, want)
			}
			if c, e := fix.Of(r, f); c != a || e != api.OK {
				t.Fatalf("Of Rat of %d, f %d: %d %d", a, f, c, e)
			}
		}
	}
}

// P8.1, H1, H2: ErrArg, and 0, if there is no such f, whatever else is wrong.
func TestNoFrac(t *testing.T) {
	for _, f := range noFracs() {
		for _, a := range few() {
			for _, b := range few() {
				if c, e := fix.Mul(a, b, f); c != 0 || e != api.ErrArg {
					t.Errorf("Mul of %d and %d, f %d: %d %d", a, b, f, c, e)
				}
				if c, e := fix.Div(a, b, f); c != 0 || e != api.ErrArg {
					t.Errorf("Div of %d and %d, f %d: %d %d", a, b, f, c, e)
				}
			}
			if c, e := fix.Sqrt(a, f); c != 0 || e != api.ErrArg {
				t.Errorf("Sqrt of %d, f %d: %d %d", a, f, c, e)
			}
			if c, e := fix.Of(ratOf(whole(a)), f); c != 0 || e != api.ErrArg {
				t.Errorf("Of %d, f %d: %d %d", a, f, c, e)
			}
			if r, e := fix.Rat(a, f); !sameRat(r, api.Rat{}) || e != api.ErrArg {
				t.Errorf("Rat of %d, f %d: %v %d", a, f, r, e)
			}
		}
		if c, e := fix.Of(ratOf(raised(whole(1), 300)), f); c != 0 || e != api.ErrArg {
			t.Errorf("Of 2^300, f %d: %d %d", f, c, e)
		}
	}
}

// P8.1, H1: ErrArg, and 0, if d is below 1, be what is told too great or not.
func TestNoScale(t *testing.T) {
	for _, d := range []int64{0, -1, -2, -most, least} {
		for _, a := range few() {
			for _, n := range few() {
				if c, e := fix.Scale(a, n, d); c != 0 || e != api.ErrArg {
					t.Errorf("Scale of %d, %d and %d: %d %d", a, n, d, c, e)
				}
			}
		}
	}
}

// P8.1, H1: ErrZero, and 0, if what is divided by is 0, with each f that is there.
func TestDivByNought(t *testing.T) {
	for f := range api.MaxFrac + 1 {
		for _, a := range edges() {
			if c, e := fix.Div(a, 0, f); c != 0 || e != api.ErrZero {
				t.Errorf("Div of %d and 0, f %d: %d %d", a, f, c, e)
			}
		}
	}
}

// P8.1, H2: ErrArg, and 0, if a is below 0.
func TestSqrtBelowNought(t *testing.T) {
	for f := range api.MaxFrac + 1 {
		for _, a := range edges() {
			if c, e := fix.Sqrt(a, f); a < 0 && (c != 0 || e != api.ErrArg) {
				t.Errorf("Sqrt of %d, f %d: %d %d", a, f, c, e)
			}
		}
	}
}

// isNear: is c at most half a step from so many?
func isNear(c int64, steps *big.Rat) bool {
	away := new(big.Rat).Sub(whole(c), steps)
	return away.Abs(away).Cmp(big.NewRat(1, 2)) <= 0
}

// P8.2: what is told is at most half a step from what is exact; of whole operations it is that.
func TestHalf(t *testing.T) {
	for _, f := range fracs() {
		for _, o := range operations() {
			for _, a := range edges() {
				for _, b := range edges() {
					if !o.able(b) {
						continue
					}
					c, e := o.tell(a, b, f)
					steps := o.steps(a, b, f)
					if e == api.OK && (!isNear(c, steps) || o.whole && whole(c).Cmp(steps) != 0) {
						t.Fatalf("%s of %d and %d, f %d: %d", o.name, a, b, f, c)
					}
				}
			}
		}
		for _, x := range rationals(f) {
			if c, e := fix.Of(ratOf(x), f); e == api.OK && !isNear(c, raised(x, f)) {
				t.Fatalf("Of %v, f %d: %d", x, f, c)
			}
		}
	}
	for _, a := range few() {
		for _, n := range few() {
			for _, d := range few() {
				if c, e := fix.Scale(a, n, d); e == api.OK && !isNear(c, scaled(a, n, d)) {
					t.Fatalf("Scale of %d, %d and %d: %d", a, n, d, c)
				}
			}
		}
	}
}

// rises fails, if of any two of these that a call tells something of, it tells less of the later one. Sides -1 turn the order round.
func rises(t *testing.T, name string, count int, side int64, tell func(i int) (int64, api.Errno)) {
	t.Helper()
	ahead, told := int64(0), false
	for i := range count {
		c, e := tell(i)
		if e != api.OK {
			continue
		}
		if told && (side > 0 && c < ahead || side < 0 && c > ahead) {
			t.Fatalf("%s, place %d: %d behind %d", name, i, c, ahead)
		}
		ahead, told = c, true
	}
}

func sideOf(a int64) int64 {
	if a < 0 {
		return -1
	}
	return 1
}

// P8.3: all keep the order in what comes first; turned round, where the other one is below nought and it is multiplied or divided by that.
func TestOrder(t *testing.T) {
	all := edges()
	for _, b := range all {
		rises(t, "Add", len(all), 1, func(i int) (int64, api.Errno) { return fix.Add(all[i], b) })
		rises(t, "Sub", len(all), 1, func(i int) (int64, api.Errno) { return fix.Sub(all[i], b) })
		for _, f := range fracs() {
			rises(t, "Mul", len(all), sideOf(b), func(i int) (int64, api.Errno) { return fix.Mul(all[i], b, f) })
			rises(t, "Div", len(all), sideOf(b), func(i int) (int64, api.Errno) { return fix.Div(all[i], b, f) })
		}
		for _, d := range all {
			rises(t, "Scale", len(all), sideOf(b), func(i int) (int64, api.Errno) { return fix.Scale(all[i], b, d) })
		}
	}
	for f := range api.MaxFrac + 1 {
		rises(t, "Sqrt", len(all), 1, func(i int) (int64, api.Errno) { return fix.Sqrt(all[i], f) })
	}
	for _, f := range fracs() {
		numbers := rationals(f)
		rises(t, "Of", len(numbers), 1, func(i int) (int64, api.Errno) { return fix.Of(ratOf(numbers[i]), f) })
		for i, a := range all[1:] {
			low, _ := fix.Rat(all[i], f)
			high, _ := fix.Rat(a, f)
			if bigRat(low).Cmp(bigRat(high)) >= 0 {
				t.Fatalf("Rat, f %d: of %d %v, of %d %v", f, all[i], low, a, high)
			}
		}
	}
}

// P8.3: they keep the order in what comes second too: sums and products as in what comes first, differences turned round, quotients likewise among divisors of one side.
func TestOrderOfSeconds(t *testing.T) {
	all := edges()
	above := all[slices.Index(all, 0)+1:]
	for _, a := range all {
		rises(t, "Add", len(all), 1, func(i int) (int64, api.Errno) { return fix.Add(a, all[i]) })
		rises(t, "Sub", len(all), -1, func(i int) (int64, api.Errno) { return fix.Sub(a, all[i]) })
		for _, f := range fracs() {
			rises(t, "Mul", len(all), sideOf(a), func(i int) (int64, api.Errno) { return fix.Mul(a, all[i], f) })
			rises(t, "Div", len(above), -sideOf(a), func(i int) (int64, api.Errno) { return fix.Div(a, above[i], f) })
		}
		for _, b := range few() {
			rises(t, "Scale", len(all), sideOf(a), func(i int) (int64, api.Errno) { return fix.Scale(a, all[i], max(1, b)) })
			side := -sideOf(a) * sideOf(b)
			rises(t, "Scale", len(above), side, func(i int) (int64, api.Errno) { return fix.Scale(a, b, above[i]) })
		}
	}
}

// turned fails, if a call tells something of the other way round, and that is not the other way round. The least one is the only one that has none.
func turned(t *testing.T, name string, c int64, e api.Errno, d int64, r api.Errno) {
	t.Helper()
	switch {
	case e == api.OK && r == api.OK:
		if c != -d || c == least {
			t.Fatalf("%s: %d, and %d the other way round", name, c, d)
		}
	case e == api.OK:
		if c != least {
			t.Fatalf("%s: %d, and error %d the other way round", name, c, r)
		}
	case r == api.OK:
		if d != least {
			t.Fatalf("%s: error %d, and %d the other way round", name, e, d)
		}
	}
}

// P8.4: the other way round it is the other way round, if it is there.
func TestSides(t *testing.T) {
	all := slices.DeleteFunc(edges(), func(a int64) bool { return a == least })
	for _, a := range all {
		for _, b := range all {
			c, e := fix.Add(a, b)
			d, r := fix.Add(-a, -b)
			turned(t, "Add", c, e, d, r)
			c, e = fix.Sub(a, b)
			d, r = fix.Sub(b, a)
			turned(t, "Sub", c, e, d, r)
			d, r = fix.Sub(-a, -b)
			turned(t, "Sub", c, e, d, r)
			for _, f := range fracs() {
				for _, o := range operations()[2:] {
					c, e = o.tell(a, b, f)
					d, r = o.tell(-a, b, f)
					turned(t, o.name, c, e, d, r)
					d, r = o.tell(a, -b, f)
					turned(t, o.name, c, e, d, r)
				}
			}
			for _, by := range few() {
				c, e = fix.Scale(a, b, by)
				d, r = fix.Scale(-a, b, by)
				turned(t, "Scale", c, e, d, r)
				d, r = fix.Scale(a, -b, by)
				turned(t, "Scale", c, e, d, r)
			}
		}
	}
	for _, f := range fracs() {
		for _, x := range rationals(f) {
			c, e := fix.Of(ratOf(x), f)
			d, r := fix.Of(ratOf(new(big.Rat).Neg(x)), f)
			turned(t, "Of", c, e, d, r)
		}
		for _, a := range all {
			x, _ := fix.Rat(a, f)
			y, _ := fix.Rat(-a, f)
			if !sameRat(y, ratOf(new(big.Rat).Neg(bigRat(x)))) {
				t.Fatalf("Rat of %d, f %d: %v, and %v the other way round", a, f, x, y)
			}
		}
	}
}

// R4: neither what is handed in nor the room behind it is changed, and an answer is memory of its own.
func TestKeepsArguments(t *testing.T) {
	top, under := api.Nat{3, 5, 77}, api.Nat{7, 9, 99}
	for _, n := range []int{0, 1, 2} {
		for _, m := range []int{1, 2} {
			for _, f := range fracs() {
				fix.Of(api.Rat{P: api.Zed{Neg: n > 0, N: top[:n]}, Q: under[:m]}, f)
			}
		}
	}
	if !slices.Equal(top, api.Nat{3, 5, 77}) || !slices.Equal(under, api.Nat{7, 9, 99}) {
		t.Errorf("changed: %v, %v", top, under)
	}
	for _, f := range fracs() {
		for _, a := range few() {
			first, _ := fix.Rat(a, f)
			for _, l := range []api.Nat{first.P.N, first.Q} {
				l = l[:cap(l)]
				for i := range l {
					l[i] = 99
				}
			}
			again, _ := fix.Rat(a, f)
			if want := ratOf(number(a, f)); !sameRat(again, want) {
				t.Fatalf("Rat of %d, f %d, once more: %v, not %v", a, f, again, want)
			}
		}
	}
}

// No call panics, and all end, even at rationals that are not right, the zero value among them.
func TestWrongRationals(t *testing.T) {
	nats := []api.Nat{nil, {}, {0}, {0, 0}, {2}, {1, 0}, {0, 6, 0}, {full, 0, 0}, make(api.Nat, 100)}
	for _, p := range nats {
		for _, q := range nats {
			for _, neg := range []bool{false, true} {
				for _, f := range slices.Concat(fracs(), noFracs()) {
					fix.Of(api.Rat{P: api.Zed{Neg: neg, N: p}, Q: q}, f)
				}
			}
		}
	}
}
