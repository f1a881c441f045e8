package mom_test

import (
	"math"
	"math/big"
	"slices"
	"testing"

	"ratchet/api"
	"ratchet/mom"
)

const (
	most  = math.MaxInt64
	least = math.MinInt64
)

var (
	fracs   = []int{0, 1, 2, 7, 8, 16, 31, 32, 39, api.MaxFrac}
	noFracs = []int{-1, -2, -40, -64, least, api.MaxFrac + 1, 62, 63, 64, 65, api.MaxDyad, most}
	small   = []int64{0, 1, -1, 2, -3, 5, 127, -128, 255, 256, -257, 1000}
	edges   = []int64{0, 1, -1, 2, -3, 255, -256, 1 << 31, -1<<32 - 1, 1 << 40, 1 << 61, 1 << 62, -1 << 62, 1<<62 + 1, most - 1, most, least + 1, least}
)

// draw is a source of numbers that is the same in every run.
type draw uint64

func (d *draw) next() uint64 {
	*d += 0x9e3779b97f4a7c15
	z := uint64(*d)
	z = (z ^ z>>30) * 0xbf58476d1ce4e5b9
	z = (z ^ z>>27) * 0x94d049bb133111eb
	return z ^ z>>31
}

func (d *draw) below(n int) int {
	return int(d.next() % uint64(n))
}

// number is one of any size, often an edge.
func (d *draw) number() int64 {
	if d.below(8) == 0 {
		return edges[d.below(len(edges))]
	}
	return int64(d.next()) >> d.below(64)
}

// modest is a number of which products and sums are mostly there.
func (d *draw) modest() int64 {
	return int64(d.next()) >> (24 + d.below(40))
}

func (d *draw) row(long int) []int64 {
	row := make([]int64, long)
	for i := range row {
		row[i] = d.modest()
	}
	return row
}

// mom is a right one.
func (d *draw) mom(f int) api.Mom {
	one := uint64(1) << f
	return api.Mom{Lr: int64(d.next()%(2*one) + 1), Mu: int64(d.next() % one), Wd: int64(d.next() % (one + 1)), Nest: d.below(2) == 0}
}

// moms are right ones of all sorts, with f.
func moms(f int) []api.Mom {
	one := int64(1) << f
	var all []api.Mom
	for _, nest := range []bool{false, true} {
		for _, lr := range []int64{0, 1, one / 3, one, 2*one + 1} {
			for _, mu := range []int64{0, 1, one / 2, one - one/10, one - 1} {
				for _, wd := range []int64{0, 1, one / 100, one / 2, one} {
					if m := (api.Mom{Lr: lr, Mu: mu, Wd: wd, Nest: nest}); mu < one && wd <= one {
						all = append(all, m)
					}
				}
			}
		}
	}
	return all
}

// exact reckons by math/big, and knows whether all has been there.
type exact struct {
	f     uint
	there bool
}

func (x *exact) told(n *big.Int) *big.Int {
	x.there = x.there && n.IsInt64()
	return n
}

func (x *exact) add(a, b *big.Int) *big.Int { return x.told(new(big.Int).Add(a, b)) }

func (x *exact) sub(a, b *big.Int) *big.Int { return x.told(new(big.Int).Sub(a, b)) }

// mul is the nearest; of two as near the even one.
func (x *exact) mul(a int64, b *big.Int) *big.Int {
	twice := new(big.Int).Mul(big.NewInt(a), b)
	one := new(big.Int).Lsh(big.NewInt(1), x.f)
	twice.Lsh(twice, 1).Add(twice, one)
	n, left := new(big.Int).DivMod(twice, one.Lsh(one, 1), new(big.Int))
	if left.Sign() == 0 && n.Bit(0) == 1 {
		n.Sub(n, big.NewInt(1))
	}
	return x.told(n)
}

// stepOf is what the Words say: the new weight, the new velocity, u, and whether all of it is there.
func stepOf(m api.Mom, f int, w, v, g int64) (weight, velocity, u *big.Int, there bool) {
	x := &exact{uint(f), true}
	d := x.add(big.NewInt(g), x.mul(m.Wd, big.NewInt(w)))
	velocity = x.add(x.mul(m.Mu, big.NewInt(v)), d)
	u = velocity
	if m.Nest {
		u = x.add(d, x.mul(m.Mu, velocity))
	}
	weight = x.sub(big.NewInt(w), x.mul(m.Lr, u))
	return weight, velocity, u, x.there
}

func none(l api.Rows) bool {
	return len(l.W) == 0 && len(l.M) == 0 && len(l.V) == 0 && len(l.G) == 0
}

// single is rows of one place.
func single(w, v, g int64) api.Rows {
	return api.Rows{W: []int64{w}, M: []int64{v}, G: []int64{g}}
}

func isTold(l api.Rows, w, v []int64) bool {
	return slices.Equal(l.W, w) && slices.Equal(l.M, v) && len(l.V) == 0 && len(l.G) == 0
}

func stepped(t *testing.T, m api.Mom, f int, l api.Rows) api.Rows {
	t.Helper()
	told, e := mom.Step(m, f, l)
	if e != api.OK || len(told.W) != len(l.W) || len(told.M) != len(l.W) || len(told.V) != 0 || len(told.G) != 0 {
		t.Fatalf("Step of %v by %v, f %d: %v %d", l, m, f, told, e)
	}
	return told
}

// wrong are moms that are not right with f, each by one thing or by several.
func wrong(f int) []api.Mom {
	one := int64(1) << f
	all := []api.Mom{{Lr: -1, Mu: -1, Wd: -1}, {Lr: least, Mu: least, Wd: least}, {Mu: one, Wd: one + 1}, {Mu: most, Wd: most}}
	for _, n := range []int64{-1, -2, -one, -most, least} {
		all = append(all, api.Mom{Lr: n}, api.Mom{Lr: 1, Mu: n}, api.Mom{Lr: 1, Wd: n})
	}
	for _, n := range []int64{one, one + 1, 2 * one, 1 << 62, most - 1, most} {
		all = append(all, api.Mom{Lr: 1, Mu: n})
	}
	for _, n := range []int64{one + 1, one + 2, 2*one + 1, 1 << 62, most - 1, most} {
		all = append(all, api.Mom{Lr: 1, Wd: n})
	}
	for _, m := range slices.Clone(all) {
		m.Nest = true
		all = append(all, m)
	}
	return all
}

// P17.1, R1: which ones are right, at both ends of each number, with each f.
func TestRight(t *testing.T) {
	for _, f := range fracs {
		one := int64(1) << f
		for _, nest := range []bool{false, true} {
			for _, lr := range []int64{0, 1, one, one + 1, 1 << 62, most} {
				for _, mu := range []int64{0, one / 2, one - 1} {
					for _, wd := range []int64{0, one / 2, one} {
						if m := (api.Mom{Lr: lr, Mu: mu, Wd: wd, Nest: nest}); !mom.Right(m, f) {
							t.Errorf("not right: %v, f %d", m, f)
						}
					}
				}
			}
		}
		for _, m := range wrong(f) {
			if mom.Right(m, f) {
				t.Errorf("right: %v, f %d", m, f)
			}
		}
	}
}

// P17.1, R1: where there is no such f, none is right.
func TestRightFrac(t *testing.T) {
	for _, f := range noFracs {
		for _, m := range []api.Mom{{}, {Nest: true}, {Lr: 1}, {Lr: 256, Mu: 255, Wd: 256}, {Lr: -1}, {Mu: -1}, {Wd: -1}} {
			if mom.Right(m, f) {
				t.Errorf("right: %v, f %d", m, f)
			}
		}
	}
}

// P17.1: steps by hand, the chapter's one and the document's one ahead.
func TestStepByHand(t *testing.T) {
	for _, x := range []struct {
		m       api.Mom
		f       int
		w, v, g int64
		nw, nv  int64
	}{
		{api.Mom{Lr: 1}, 0, 5, 0, 2, 3, 2},
		{api.Mom{Lr: 256}, 8, 5, 0, 2, 3, 2},
		{api.Mom{Lr: 256}, 8, 7, 0, -1, 8, -1},
		{api.Mom{Lr: 256}, 8, 7, 1000, -1, 8, -1}, // without momentum the old velocity is nothing
		{api.Mom{Lr: 256, Nest: true}, 8, 7, 1000, -1, 8, -1},
		{api.Mom{Lr: 256, Mu: 128}, 8, 100, 20, 6, 84, 16},
		{api.Mom{Lr: 256, Mu: 128, Nest: true}, 8, 100, 20, 6, 86, 16}, // u: 6 and 8
		{api.Mom{Lr: 128, Mu: 128}, 8, 100, 20, 6, 92, 16},
		{api.Mom{Lr: 128, Mu: 128, Nest: true}, 8, 100, 20, 6, 93, 16},
		{api.Mom{Lr: 512, Mu: 128}, 8, 100, 20, 6, 68, 16},
		{api.Mom{Lr: 256, Wd: 128}, 8, 100, 0, 6, 44, 56},                         // d: 6 and 50
		{api.Mom{Lr: 256, Mu: 128, Wd: 128}, 8, 100, 20, 6, 34, 66},               // 10 and 56
		{api.Mom{Lr: 256, Mu: 128, Wd: 128, Nest: true}, 8, 100, 20, 6, 11, 66},   // u: 56 and 33
		{api.Mom{Lr: 256, Mu: 128, Wd: 256, Nest: true}, 8, -40, 20, -6, 24, -36}, // d: -46; u: -46 and -18
		{api.Mom{Lr: 1, Wd: 1}, 0, 9, 0, 0, 0, 9},
		{api.Mom{Lr: 1, Wd: 1}, 0, 9, 5, 1, -1, 10},
		{api.Mom{Lr: 0, Mu: 128}, 8, 9, 20, 1, 9, 11},
		{api.Mom{Lr: 256, Mu: 128}, 8, 0, 1, 0, 0, 0}, // a half, of two as near the even one
		{api.Mom{Lr: 256, Mu: 128}, 8, 0, 3, 0, -2, 2},
		{api.Mom{Lr: 256, Mu: 128}, 8, 0, 5, 0, -2, 2},
		{api.Mom{Lr: 256, Mu: 128}, 8, 0, -3, 0, 2, -2},
		{api.Mom{Lr: 256, Mu: 128}, 8, 0, 3, 1, -3, 3}, // it is the product that is rounded
		{api.Mom{Lr: 128}, 8, 0, 0, 1, 0, 1},
		{api.Mom{Lr: 128}, 8, 1, 0, 1, 1, 1},
		{api.Mom{Lr: 128}, 8, 1, 0, 3, -1, 3},
		{api.Mom{Lr: 256, Wd: 128}, 8, 1, 0, 1, 0, 1},
		{api.Mom{Lr: 256, Wd: 128}, 8, 3, 0, 1, 0, 3},
		{api.Mom{Lr: 256, Mu: 255}, 8, 0, 256, 0, -255, 255},
		{api.Mom{Lr: 1 << 40, Mu: 1<<40 - 1, Wd: 1 << 40}, 40, 1 << 40, 1 << 40, 0, 1 - 1<<40, 1<<41 - 1},
	} {
		if told, e := mom.Step(x.m, x.f, single(x.w, x.v, x.g)); e != api.OK || !isTold(told, []int64{x.nw}, []int64{x.nv}) {
			t.Errorf("Step of %d %d %d by %v, f %d: %v %d, not %d %d", x.w, x.v, x.g, x.m, x.f, told, e, x.nw, x.nv)
		}
	}
}

// P17.1: many places at once, and none.
func TestStepRows(t *testing.T) {
	m := api.Mom{Lr: 256, Mu: 128, Nest: true}
	told := stepped(t, m, 8, api.Rows{W: []int64{5, 7, 100}, M: []int64{0, 0, 20}, G: []int64{2, -1, 6}})
	if !isTold(told, []int64{2, 8, 86}, []int64{2, -1, 16}) { // the half of -1 is 0, as the even one
		t.Errorf("told: %v", told)
	}
	for _, l := range []api.Rows{{}, {W: []int64{}, M: []int64{}, G: []int64{}}, {W: []int64{}}, {M: []int64{}, V: []int64{1, 2}}} {
		for _, f := range fracs {
			if told, e := mom.Step(api.Mom{Lr: most}, f, l); e != api.OK || !none(told) {
				t.Errorf("Step of %v, f %d: %v %d", l, f, told, e)
			}
		}
	}
}

// tryStep holds a step of one place against the Words: what is told, or that something is not there.
func tryStep(t *testing.T, m api.Mom, f int, w, v, g int64) bool {
	t.Helper()
	told, e := mom.Step(m, f, single(w, v, g))
	nw, nv, _, there := stepOf(m, f, w, v, g)
	if !there {
		if e != api.ErrRange || !none(told) {
			t.Fatalf("Step of %d %d %d by %v, f %d: %v %d, not %d", w, v, g, m, f, told, e, api.ErrRange)
		}
		return false
	}
	if e != api.OK || !isTold(told, []int64{nw.Int64()}, []int64{nv.Int64()}) {
		t.Fatalf("Step of %d %d %d by %v, f %d: %v %d, not %v %v", w, v, g, m, f, told, e, nw, nv)
	}
	return true
}

// P17.1: steps by all sorts of moms, of small numbers and of edges.
func TestStep(t *testing.T) {
	for _, f := range fracs {
		for _, m := range moms(f) {
			for _, l := range [][]int64{small, {0, 1, -1, 1 << 62, most, least + 1, least}} {
				for _, w := range l {
					for _, v := range l[:min(len(l), 9)] {
						for _, g := range l[:min(len(l), 9)] {
							tryStep(t, m, f, w, v, g)
						}
					}
				}
			}
		}
	}
}

// P17.1: steps by moms and of numbers that are drawn; both ends come up often.
func TestStepDrawn(t *testing.T) {
	d := draw(1)
	var there, not int
	for range 60000 {
		f := d.below(api.MaxFrac + 1)
		m := d.mom(f)
		if d.below(8) == 0 {
			m.Lr = most & d.number()
		}
		for _, l := range [][3]int64{{d.number(), d.number(), d.number()}, {d.modest(), d.modest(), d.modest()}} {
			if tryStep(t, m, f, l[0], l[1], l[2]) {
				there++
			} else {
				not++
			}
		}
	}
	if there < 10000 || not < 10000 {
		t.Errorf("%d there, %d not", there, not)
	}
}

// P17.1: a mom that is not right is told ahead of all else.
func TestStepArg(t *testing.T) {
	rows := []api.Rows{{}, single(1, 2, 3), single(most, most, most), single(least, least, least), {W: []int64{1}}, {W: []int64{1}, M: []int64{most}, G: []int64{most, 1}}, {V: []int64{1}}}
	try := func(m api.Mom, f int) {
		for _, l := range rows {
			if told, e := mom.Step(m, f, l); e != api.ErrArg || !none(told) {
				t.Errorf("Step of %v by %v, f %d: %v %d", l, m, f, told, e)
			}
		}
	}
	for _, f := range fracs {
		for _, m := range wrong(f) {
			try(m, f)
		}
	}
	for _, f := range noFracs {
		for _, m := range []api.Mom{{}, {Lr: 1}, {Lr: 256, Mu: 255, Wd: 256, Nest: true}, {Lr: -1}} {
			try(m, f)
		}
	}
}

// P17.1: W, M and G are all as long, ahead of what is not there; of V nothing is asked.
func TestStepShape(t *testing.T) {
	m := api.Mom{Lr: 512, Mu: 128, Wd: 256}
	for w := range 4 {
		for v := range 4 {
			for g := range 4 {
				for _, a := range []int64{0, 1, most, least} {
					l := api.Rows{W: slices.Repeat([]int64{a}, w), M: slices.Repeat([]int64{a}, v), V: slices.Repeat([]int64{a}, w), G: slices.Repeat([]int64{a}, g)}
					told, e := mom.Step(m, 8, l)
					want := api.ErrShape
					if w == v && w == g {
						want = api.OK
						if w > 0 && (a == most || a == least) {
							want = api.ErrRange
						}
					}
					if e != want || e != api.OK && !none(told) {
						t.Errorf("Step of %v: %v %d, not %d", l, told, e, want)
					}
				}
			}
		}
	}
	for long := range 4 {
		l := api.Rows{W: []int64{10, 20}, M: []int64{2, 4}, V: slices.Repeat([]int64{least}, long), G: []int64{1, 1}}
		if told := stepped(t, api.Mom{Lr: 256, Mu: 128}, 8, l); !isTold(told, []int64{8, 17}, []int64{2, 3}) {
			t.Errorf("with a V of %d: %v", long, told)
		}
	}
}

// ended is a step of one place, and the error that it has.
type ended struct {
	m       api.Mom
	f       int
	w, v, g int64
	e       api.Errno
}

// ranges are steps that go up to an end and, with one more, beyond it, for each sum and product that may be not there.
func ranges() []ended {
	return []ended{
		{api.Mom{Wd: 1}, 0, most - 5, 0, 5, api.OK}, // d
		{api.Mom{Wd: 1}, 0, most - 5, 0, 6, api.ErrRange},
		{api.Mom{Wd: 1}, 0, least + 5, 0, -5, api.OK},
		{api.Mom{Wd: 1}, 0, least + 5, 0, -6, api.ErrRange},
		{api.Mom{Wd: 256, Mu: 128}, 8, most - 5, -1000, 6, api.ErrRange}, // d is beyond, the velocity would not be
		{api.Mom{Mu: 128}, 8, 0, 20, most - 10, api.OK},                  // the velocity
		{api.Mom{Mu: 128}, 8, 0, 22, most - 10, api.ErrRange},
		{api.Mom{Mu: 128}, 8, 0, -20, least + 10, api.OK},
		{api.Mom{Mu: 128}, 8, 0, -22, least + 10, api.ErrRange},
		{api.Mom{Mu: 255}, 8, 0, most, most, api.ErrRange},
		{api.Mom{Mu: 128, Nest: true}, 8, 0, 0, 1 << 62, api.OK}, // u
		{api.Mom{Mu: 128, Nest: true}, 8, 0, 0, most, api.ErrRange},
		{api.Mom{Mu: 128}, 8, 0, 0, most, api.OK},
		{api.Mom{Mu: 128, Nest: true}, 8, 0, 0, least, api.ErrRange},
		{api.Mom{Mu: 128}, 8, 0, 0, least, api.OK},
		{api.Mom{Lr: 2}, 0, most, 0, 1<<62 - 1, api.OK}, // the product with the rate
		{api.Mom{Lr: 2}, 0, most, 0, 1 << 62, api.ErrRange},
		{api.Mom{Lr: 2}, 0, -1, 0, -1 << 62, api.OK},
		{api.Mom{Lr: 2}, 0, -1, 0, -1<<62 - 1, api.ErrRange},
		{api.Mom{Lr: most}, 0, 0, 0, 1, api.OK},
		{api.Mom{Lr: most}, 0, 0, 0, 2, api.ErrRange},
		{api.Mom{Lr: most}, 0, most, 0, 2, api.ErrRange}, // the product is beyond, the weight would not be
		{api.Mom{Lr: most}, 40, 0, 0, 1 << 40, api.OK},
		{api.Mom{Lr: most}, 40, 0, 0, 1<<40 + 1, api.ErrRange},
		{api.Mom{Lr: 1}, 0, most - 5, 0, -5, api.OK}, // the weight
		{api.Mom{Lr: 1}, 0, most - 5, 0, -6, api.ErrRange},
		{api.Mom{Lr: 1}, 0, least + 5, 0, 5, api.OK},
		{api.Mom{Lr: 1}, 0, least + 5, 0, 6, api.ErrRange},
		{api.Mom{Lr: 1}, 0, -1, 0, least, api.OK},
		{api.Mom{Lr: 1}, 0, 0, 0, least, api.ErrRange},
		{api.Mom{Lr: 0}, 0, least, 0, least, api.OK},
	}
}

// P17.1: each sum and product that is not there is told, in whichever place it is.
func TestStepRange(t *testing.T) {
	for i, x := range ranges() {
		if there := tryStep(t, x.m, x.f, x.w, x.v, x.g); there != (x.e == api.OK) {
			t.Errorf("%d: %v is there: %t", i, x, there)
		}
		for long := 1; long < 6; long++ {
			for place := range long {
				l := api.Rows{W: make([]int64, long), M: make([]int64, long), G: make([]int64, long)}
				l.W[place], l.M[place], l.G[place] = x.w, x.v, x.g
				told, e := mom.Step(x.m, x.f, l)
				if e != x.e || e != api.OK && !none(told) || e == api.OK && len(told.W) != long {
					t.Errorf("%d: Step of %v: %v %d, not %d", i, l, told, e, x.e)
				}
			}
		}
	}
}

// isNear: is n at most half a step from a, and, with the side, b times c?
func isNear(n, a int64, side, b, c int64, f int) bool {
	off := new(big.Int).Mul(big.NewInt(b), big.NewInt(c))
	off.Mul(off, big.NewInt(side))
	whole := new(big.Int).Sub(big.NewInt(a), big.NewInt(n))
	off.Add(off, whole.Lsh(whole, uint(f)))
	return off.Abs(off).Lsh(off, 1).Cmp(new(big.Int).Lsh(big.NewInt(1), uint(f))) <= 0
}

// P17.2: without decay a velocity is at most half a step from Mu times the old one, and the gradient; with or without, a weight is from the old one less Lr times u.
func TestNear(t *testing.T) {
	d := draw(2)
	for range 20000 {
		f := d.below(api.MaxFrac + 1)
		m := d.mom(f)
		if d.below(2) == 0 {
			m.Wd = 0
		}
		l := api.Rows{W: d.row(1), M: d.row(1), G: d.row(1)}
		told := stepped(t, m, f, l)
		if m.Wd == 0 && !isNear(told.M[0], l.G[0], 1, m.Mu, l.M[0], f) {
			t.Fatalf("the velocity of %v by %v, f %d: %v", l, m, f, told)
		}
		u := told.M[0]
		if m.Nest {
			_, _, n, _ := stepOf(m, f, l.W[0], l.M[0], l.G[0])
			u = n.Int64()
		}
		if !isNear(told.W[0], l.W[0], -1, m.Lr, u, f) {
			t.Fatalf("the weight of %v by %v, f %d: %v", l, m, f, told)
		}
	}
}

// P17.3: a place is told as it is alone, whatever stands beside it and wherever it stands.
func TestApart(t *testing.T) {
	d := draw(3)
	for range 500 {
		f := d.below(api.MaxFrac + 1)
		m := d.mom(f)
		long := 1 + d.below(30)
		l := api.Rows{W: d.row(long), M: d.row(long), G: d.row(long)}
		told := stepped(t, m, f, l)
		for i := range long {
			if alone := stepped(t, m, f, single(l.W[i], l.M[i], l.G[i])); alone.W[0] != told.W[i] || alone.M[0] != told.M[i] {
				t.Fatalf("place %d of %v by %v, f %d: %v, alone %v", i, l, m, f, told, alone)
			}
		}
		back := api.Rows{W: slices.Clone(l.W), M: slices.Clone(l.M), G: slices.Clone(l.G)}
		for _, row := range [][]int64{back.W, back.M, back.G, told.W, told.M} {
			slices.Reverse(row)
		}
		if turned := stepped(t, m, f, back); !isTold(turned, told.W, told.M) {
			t.Fatalf("%v turned by %v, f %d: %v, not %v", l, m, f, turned, told)
		}
	}
}

// P17.3: of many places each is as the Words say.
func TestApartMany(t *testing.T) {
	d := draw(4)
	l := api.Rows{W: d.row(5000), M: d.row(5000), G: d.row(5000)}
	for _, nest := range []bool{false, true} {
		m := api.Mom{Lr: 77, Mu: 230, Wd: 3, Nest: nest}
		told := stepped(t, m, 8, l)
		for i := range l.W {
			nw, nv, _, _ := stepOf(m, 8, l.W[i], l.M[i], l.G[i])
			if told.W[i] != nw.Int64() || told.M[i] != nv.Int64() {
				t.Fatalf("place %d by %v: %d %d, not %v %v", i, m, told.W[i], told.M[i], nw, nv)
			}
		}
	}
}

// P17.1, R4 and R5: what is handed in is not changed, nor what lies behind its end; nor is what was told by what comes later.
func TestKept(t *testing.T) {
	room := []int64{100, 50, 8, 20, 40, 9, 6, 4, 7}
	l := api.Rows{W: room[0:2], M: room[3:5], V: room[1:2], G: room[6:8]}
	m := api.Mom{Lr: 256, Mu: 128, Wd: 128}
	first := stepped(t, m, 8, l)
	again := stepped(t, m, 8, l)
	if !slices.Equal(room, []int64{100, 50, 8, 20, 40, 9, 6, 4, 7}) {
		t.Errorf("changed: %v", room)
	}
	next := stepped(t, m, 8, api.Rows{W: first.W, M: first.M, G: l.G})
	if !isTold(first, []int64{34, 1}, []int64{66, 49}) || !isTold(again, first.W, first.M) {
		t.Errorf("told: %v, and then %v", first, again)
	}
	for i := range room {
		room[i] = -1
	}
	first.W = append(first.W[:1], 5)
	if !isTold(next, []int64{-22, -27}, []int64{56, 28}) || !isTold(again, []int64{34, 1}, []int64{66, 49}) || first.M[0] != 66 {
		t.Errorf("told: %v, and then %v", again, next)
	}
}

// P17.1: weights and velocities may be one row, and so may gradients.
func TestShared(t *testing.T) {
	row := []int64{10, -20, 30}
	told := stepped(t, api.Mom{Lr: 256, Mu: 128}, 8, api.Rows{W: row, M: row, G: row})
	if !isTold(told, []int64{-5, 10, -15}, []int64{15, -30, 45}) || !slices.Equal(row, []int64{10, -20, 30}) {
		t.Errorf("told: %v of %v", told, row)
	}
}
