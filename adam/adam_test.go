package adam_test

import (
	"math"
	"math/big"
	"slices"
	"testing"

	"ratchet/adam"
	"ratchet/api"
)

const (
	most  = math.MaxInt64
	least = math.MinInt64
)

var (
	fracs   = []int{0, 1, 2, 7, 8, 16, 31, 32, 39, api.MaxFrac}
	noFracs = []int{-1, -2, -40, -64, least, api.MaxFrac + 1, 62, 63, 64, 65, api.MaxDyad, most}
	edges   = []int64{0, 1, -1, 2, -3, 255, -256, 1 << 31, -1<<32 - 1, 1 << 40, 1 << 61, 1 << 62, -1 << 62, 1<<62 + 1, most - 1, most, least + 1, least}
)

// draw is a source of numbers that is the same in every run.
type draw uint64

func (d *draw) next() uint64 {
	*d += 0x9e3779b97f4a7c15
	z := uint64(*d)
	z = (z ^ z>>30) * 0xbf58476d1ce4e5b9
	z = (z ^ z>>27) * 0x94d049bb133111eb
	return z ^ z>>31
}

func (d *draw) below(n int) int {
	return int(d.next() % uint64(n))
}

// number is one of any size, often an edge.
func (d *draw) number() int64 {
	if d.below(8) == 0 {
		return edges[d.below(len(edges))]
	}
	return int64(d.next()) >> d.below(64)
}

// modest is a number of which a step is mostly there.
func (d *draw) modest() int64 {
	return int64(d.next()) >> (40 + d.below(24))
}

// share is a number from 0 on and below 1.
func (d *draw) share(f int) int64 {
	one := int64(1) << f
	switch d.below(8) {
	case 0:
		return 0
	case 1:
		return one - 1
	case 2:
		return one / 2
	}
	return int64(d.next() % uint64(one))
}

func (d *draw) powers(f int) [2]int64 {
	return [2]int64{d.share(f), d.share(f)}
}

// adam is a right one.
func (d *draw) adam(f int) api.Adam {
	one := uint64(1) << f
	return api.Adam{Lr: int64(d.next() % (2*one + 1)), B1: d.share(f), B2: d.share(f), Eps: int64(d.next()%one) + 1, Wd: int64(d.next() % (one + 1)), Apart: d.below(2) == 0}
}

func (d *draw) place() place {
	return place{d.modest(), d.modest(), max(d.modest(), 0), d.modest()}
}

func (d *draw) rows(long int) api.Rows {
	var l api.Rows
	for range long {
		x := d.place()
		l.W, l.M, l.V, l.G = append(l.W, x.w), append(l.M, x.m), append(l.V, x.v), append(l.G, x.g)
	}
	return l
}

// place is what a step is made of.
type place struct{ w, m, v, g int64 }

// rows of one place.
func (x place) rows() api.Rows {
	return api.Rows{W: []int64{x.w}, M: []int64{x.m}, V: []int64{x.v}, G: []int64{x.g}}
}

// exact reckons by math/big, and knows whether all has been there.
type exact struct {
	f     uint
	there bool
}

func (x *exact) told(n *big.Int) *big.Int {
	x.there = x.there && n.IsInt64()
	return n
}

func (x *exact) add(a, b *big.Int) *big.Int { return x.told(new(big.Int).Add(a, b)) }

func (x *exact) sub(a, b *big.Int) *big.Int { return x.told(new(big.Int).Sub(a, b)) }

// near is the nearest to a by b, which is above 0; of two as near the even one.
func (x *exact) near(a, b *big.Int) *big.Int {
	twice := new(big.Int).Lsh(a, 1)
	n, left := new(big.Int).DivMod(twice.Add(twice, b), new(big.Int).Lsh(b, 1), new(big.Int))
	if left.Sign() == 0 && n.Bit(0) == 1 {
		n.Sub(n, big.NewInt(1))
	}
	return x.told(n)
}

func (x *exact) one() *big.Int { return new(big.Int).Lsh(big.NewInt(1), x.f) }

func (x *exact) mul(a, b *big.Int) *big.Int { return x.near(new(big.Int).Mul(a, b), x.one()) }

func (x *exact) div(a, b *big.Int) *big.Int { return x.near(new(big.Int).Lsh(a, x.f), b) }

func (x *exact) root(a *big.Int) *big.Int { return x.told(new(big.Int).Sqrt(new(big.Int).Lsh(a, x.f))) }

// stepOf is what the Words say: the new weight and moments, d, and whether all of it is there.
func stepOf(a api.Adam, f int, p [2]int64, l place) (w, m, v, d *big.Int, there bool) {
	x := &exact{uint(f), true}
	rate, b1, b2, decay := big.NewInt(a.Lr), big.NewInt(a.B1), big.NewInt(a.B2), big.NewInt(a.Wd)
	d = big.NewInt(l.g)
	if !a.Apart {
		d = x.add(d, x.mul(decay, big.NewInt(l.w)))
	}
	m = x.add(x.mul(b1, big.NewInt(l.m)), x.mul(x.sub(x.one(), b1), d))
	v = x.add(x.mul(b2, big.NewInt(l.v)), x.mul(x.sub(x.one(), b2), x.mul(d, d)))
	first := x.div(m, x.sub(x.one(), big.NewInt(p[0])))
	second := x.div(v, x.sub(x.one(), big.NewInt(p[1])))
	u := x.div(first, x.add(x.root(second), big.NewInt(a.Eps)))
	w = x.sub(big.NewInt(l.w), x.mul(rate, u))
	if a.Apart {
		w = x.sub(w, x.mul(x.mul(rate, decay), big.NewInt(l.w)))
	}
	return w, m, v, d, x.there
}

func none(l api.Rows) bool {
	return len(l.W) == 0 && len(l.M) == 0 && len(l.V) == 0 && len(l.G) == 0
}

func isTold(l api.Rows, w, m, v []int64) bool {
	return slices.Equal(l.W, w) && slices.Equal(l.M, m) && slices.Equal(l.V, v) && len(l.G) == 0
}

func stepped(t *testing.T, a api.Adam, f int, p [2]int64, l api.Rows) api.Rows {
	t.Helper()
	told, e := adam.Step(a, f, p, l)
	if e != api.OK || len(told.W) != len(l.W) || len(told.M) != len(l.W) || len(told.V) != len(l.W) || len(told.G) != 0 {
		t.Fatalf("Step of %v by %v, f %d, powers %d: %v %d", l, a, f, p, told, e)
	}
	return told
}

// wrong are adams that are not right with f, each by one thing or by several.
func wrong(f int) []api.Adam {
	one := int64(1) << f
	all := []api.Adam{{}, {Lr: -1, B1: -1, B2: -1, Eps: 0, Wd: -1}, {Lr: least, B1: least, B2: least, Eps: least, Wd: least}, {B1: one, B2: one, Eps: 1, Wd: one + 1}, {Lr: most, B1: most, B2: most, Eps: most, Wd: most}}
	for _, n := range []int64{-1, -2, -one, -most, least} {
		all = append(all, api.Adam{Lr: n, Eps: 1}, api.Adam{Lr: 1, B1: n, Eps: 1}, api.Adam{Lr: 1, B2: n, Eps: 1}, api.Adam{Lr: 1, Eps: n}, api.Adam{Lr: 1, Eps: 1, Wd: n})
	}
	for _, n := range []int64{one, one + 1, 2 * one, 1 << 62, most - 1, most} {
		all = append(all, api.Adam{Lr: 1, B1: n, Eps: 1}, api.Adam{Lr: 1, B2: n, Eps: 1})
	}
	for _, n := range []int64{one + 1, one + 2, 2*one + 1, 1 << 62, most - 1, most} {
		all = append(all, api.Adam{Lr: 1, Eps: 1, Wd: n})
	}
	all = append(all, api.Adam{Lr: one, B1: one - 1, B2: one - 1, Eps: 0, Wd: one})
	for _, a := range slices.Clone(all) {
		a.Apart = true
		all = append(all, a)
	}
	return all
}

// adams are right ones of all sorts, with f.
func adams(f int) []api.Adam {
	one := int64(1) << f
	var all []api.Adam
	for _, apart := range []bool{false, true} {
		for _, lr := range []int64{0, 1, one/3 + 1, 2*one + 1} {
			for _, beta := range [][2]int64{{0, 0}, {one / 2, one / 2}, {0, one - 1}, {one - 1, 0}, {one - one/10 - 1, one - 1}, {one / 2, one / 4}} {
				for _, eps := range []int64{1, 3*one + 1} {
					for _, wd := range []int64{0, one / 3, one} {
						all = append(all, api.Adam{Lr: lr, B1: beta[0], B2: beta[1], Eps: eps, Wd: wd, Apart: apart})
					}
				}
			}
		}
	}
	return all
}

// P18.1, S1: which ones are right, at both ends of each number, with each f.
func TestRight(t *testing.T) {
	for _, f := range fracs {
		one := int64(1) << f
		for _, a := range adams(f) {
			if !adam.Right(a, f) {
				t.Errorf("not right: %v, f %d", a, f)
			}
		}
		for _, lr := range []int64{0, 1, one + 1, 1 << 62, most} {
			for _, eps := range []int64{1, 2, one, 1 << 62, most} {
				for _, apart := range []bool{false, true} {
					if a := (api.Adam{Lr: lr, B1: one - 1, B2: one - 1, Eps: eps, Wd: one, Apart: apart}); !adam.Right(a, f) {
						t.Errorf("not right: %v, f %d", a, f)
					}
				}
			}
		}
		for _, a := range wrong(f) {
			if adam.Right(a, f) {
				t.Errorf("right: %v, f %d", a, f)
			}
		}
	}
}

// P18.1, S1: where there is no such f, none is right.
func TestRightFrac(t *testing.T) {
	for _, f := range noFracs {
		for _, a := range []api.Adam{{Eps: 1}, {Eps: 1, Apart: true}, {Lr: 1, B1: 1, B2: 1, Eps: 1, Wd: 1}, {Lr: 256, B1: 255, B2: 255, Eps: 1, Wd: 256}, {}, {Lr: -1, Eps: 1}} {
			if adam.Right(a, f) {
				t.Errorf("right: %v, f %d", a, f)
			}
		}
	}
}

// P18.1, S1: powers by hand.
func TestPowersByHand(t *testing.T) {
	for _, x := range []struct {
		b1, b2 int64
		f      int
		p, to  [2]int64
	}{
		{128, 128, 8, [2]int64{256, 256}, [2]int64{128, 128}},
		{128, 64, 8, [2]int64{256, 256}, [2]int64{128, 64}},
		{128, 64, 8, [2]int64{128, 64}, [2]int64{64, 16}},
		{230, 255, 8, [2]int64{256, 256}, [2]int64{230, 255}},
		{230, 255, 8, [2]int64{230, 255}, [2]int64{207, 254}}, // 206.6 and 254.004
		{0, 255, 8, [2]int64{256, 0}, [2]int64{0, 0}},
		{128, 128, 8, [2]int64{1, 3}, [2]int64{0, 2}}, // a half and one and a half, of two as near the even one
		{129, 255, 8, [2]int64{1, 1}, [2]int64{1, 1}}, // they stay there
		{0, 0, 0, [2]int64{1, 1}, [2]int64{0, 0}},
		{1<<40 - 1, 1 << 39, 40, [2]int64{1 << 40, 1 << 40}, [2]int64{1<<40 - 1, 1 << 39}},
		{1<<40 - 1, 1 << 39, 40, [2]int64{1<<40 - 1, 1 << 39}, [2]int64{1<<40 - 2, 1 << 38}},
	} {
		for _, apart := range []bool{false, true} {
			if p := adam.Powers(api.Adam{Lr: 9, B1: x.b1, B2: x.b2, Eps: 1, Wd: 1, Apart: apart}, x.f, x.p); p != x.to {
				t.Errorf("Powers of %d and %d, f %d, %d: %d, not %d", x.b1, x.b2, x.f, x.p, p, x.to)
			}
		}
	}
}

// P18.1: powers are the products with the betas, to the nearest.
func TestPowers(t *testing.T) {
	d := draw(1)
	for range 20000 {
		f := d.below(api.MaxFrac + 1)
		a := d.adam(f)
		p := d.powers(f)
		for i := range p {
			if d.below(8) == 0 {
				p[i] = 1 << f
			}
		}
		x := &exact{f: uint(f)}
		first, second := x.mul(big.NewInt(a.B1), big.NewInt(p[0])), x.mul(big.NewInt(a.B2), big.NewInt(p[1]))
		if to := adam.Powers(a, f, p); to[0] != first.Int64() || to[1] != second.Int64() {
			t.Fatalf("Powers of %v, f %d, %d: %d, not %v %v", a, f, p, to, first, second)
		}
	}
}

// P18.3: powers do not rise, and are below 1 behind a step, step by step.
func TestPowersDown(t *testing.T) {
	d := draw(2)
	for f := range api.MaxFrac + 1 {
		one := int64(1) << f
		all := adams(f)
		for range 20 {
			all = append(all, d.adam(f))
		}
		for _, a := range all {
			p := [2]int64{one, one}
			for range 50 {
				to := adam.Powers(a, f, p)
				for i, n := range to {
					if n < 0 || n > p[i] || n >= one {
						t.Fatalf("Powers of %v, f %d, %d: %d", a, f, p, to)
					}
				}
				p = to
			}
		}
	}
}

// P18.1, R1: powers end at whatever they are of.
func TestPowersAny(t *testing.T) {
	for _, f := range append(slices.Clone(fracs), noFracs...) {
		for _, b := range edges {
			for _, p := range edges {
				adam.Powers(api.Adam{B1: b, B2: p, Eps: 1}, f, [2]int64{p, b})
			}
		}
	}
}

// P18.1: steps by hand, the chapter's one and the document's one ahead.
func TestStepByHand(t *testing.T) {
	halves := [2]int64{128, 128}
	none := [2]int64{}
	for _, x := range []struct {
		a api.Adam
		f int
		p [2]int64
		l place
		w int64
		m int64
		v int64
	}{
		{api.Adam{Lr: 16, B1: 128, B2: 128, Eps: 1}, 8, halves, place{w: 77}, 77, 0, 0},
		{api.Adam{Lr: 16, B1: 128, B2: 128, Eps: 1, Apart: true}, 8, halves, place{w: -77}, -77, 0, 0},
		{api.Adam{Lr: 16, B1: 128, B2: 128, Eps: 1}, 8, halves, place{g: 256}, -16, 128, 128}, // u: 256 by 257
		{api.Adam{Lr: 16, B1: 128, B2: 128, Eps: 1}, 8, halves, place{w: 300, g: -256}, 316, -128, 128},
		{api.Adam{Lr: 256, B1: 0, B2: 0, Eps: 1}, 8, none, place{w: 1000, g: 512}, 744, 512, 1024},  // 512 by 513: 255.501
		{api.Adam{Lr: 256, B1: 0, B2: 0, Eps: 256}, 8, none, place{w: 1000, g: 256}, 872, 256, 256}, // 256 by 512
		{api.Adam{Lr: 256, B1: 0, B2: 0, Eps: 256}, 8, none, place{w: 1000, m: 900, v: 900, g: 256}, 872, 256, 256},
		{api.Adam{Lr: 256, B1: 128, B2: 64, Eps: 256}, 8, none, place{w: 0, m: 512, v: 1024, g: 256}, -165, 384, 448}, // the root of 448: 338; 384 by 594: 165.5
		{api.Adam{Lr: 256, B1: 128, B2: 128, Eps: 256}, 8, halves, place{w: 0, m: 0, v: 0, g: 512}, -171, 256, 512},   // 512 by 768: 170.7
		{api.Adam{Lr: 256, B1: 128, B2: 128, Eps: 256}, 8, [2]int64{64, 0}, place{g: 512}, -141, 256, 512},            // 341 by the root of 512: 362, and 256: 141.3
		{api.Adam{Lr: 256, B1: 0, B2: 0, Eps: 256, Wd: 128}, 8, none, place{w: 512}, 384, 256, 256},                   // the decay is the gradient
		{api.Adam{Lr: 256, B1: 0, B2: 0, Eps: 256, Wd: 128, Apart: true}, 8, none, place{w: 512}, 256, 0, 0},
		{api.Adam{Lr: 128, B1: 0, B2: 0, Eps: 256, Wd: 128, Apart: true}, 8, none, place{w: 512}, 384, 0, 0},
		{api.Adam{Lr: 128, B1: 0, B2: 0, Eps: 256, Wd: 128, Apart: true}, 8, none, place{w: 512, g: 256}, 320, 256, 256},
		{api.Adam{Lr: 0, B1: 0, B2: 0, Eps: 256, Wd: 256, Apart: true}, 8, none, place{w: 512, g: 256}, 512, 256, 256},
		{api.Adam{Lr: 1, B1: 0, B2: 0, Eps: 256, Wd: 128, Apart: true}, 8, none, place{w: 2560}, 2560, 0, 0}, // the rate times the decay is a half, and the even one is 0
		{api.Adam{Lr: 3, B1: 0, B2: 0, Eps: 256, Wd: 128, Apart: true}, 8, none, place{w: 2560}, 2540, 0, 0}, // one and a half: 2
		{api.Adam{Lr: 1, B1: 0, B2: 0, Eps: 1}, 0, none, place{w: 9, g: 5}, 8, 5, 25},                        // 5 by 6
		{api.Adam{Lr: 3, B1: 0, B2: 0, Eps: 1, Wd: 1}, 0, none, place{w: 9, g: -8}, 9, 1, 1},                 // a half, and the even one is 0
		{api.Adam{Lr: 3, B1: 0, B2: 0, Eps: 1, Wd: 1}, 0, none, place{w: 9, g: -7}, 6, 2, 4},
		{api.Adam{Lr: 3, B1: 0, B2: 0, Eps: 1, Wd: 1, Apart: true}, 0, none, place{w: 9, g: -7}, -15, -7, 49},
		{api.Adam{Lr: 256, B1: 128, B2: 128, Eps: 256}, 8, none, place{m: 1, v: 1, g: 0}, 0, 0, 0}, // a half, of two as near the even one
		{api.Adam{Lr: 256, B1: 128, B2: 128, Eps: 1}, 8, none, place{m: 3, v: 3, g: 0}, -22, 2, 2}, // the root of 2: 22; 2 by 23: 22.3
		{api.Adam{Lr: 256, B1: 128, B2: 128, Eps: 1}, 8, none, place{m: -3, v: 5, g: 0}, 22, -2, 2},
		{api.Adam{Lr: 256, B1: 128, B2: 128, Eps: 1}, 8, none, place{m: 1, v: 0, g: 1}, 0, 0, 0}, // each product is rounded
		{api.Adam{Lr: 256, B1: 0, B2: 0, Eps: 1}, 8, none, place{g: 11}, -2816, 11, 0},           // its square is less than a half
		{api.Adam{Lr: 256, B1: 0, B2: 0, Eps: 1}, 8, none, place{g: 12}, -181, 12, 1},            // the root of 1: 16; 12 by 17: 180.7
	} {
		told, e := adam.Step(x.a, x.f, x.p, x.l.rows())
		if e != api.OK || !isTold(told, []int64{x.w}, []int64{x.m}, []int64{x.v}) {
			t.Errorf("Step of %v by %v, f %d, powers %d: %v %d, not %d %d %d", x.l, x.a, x.f, x.p, told, e, x.w, x.m, x.v)
		}
	}
}

// P18.1: many places at once, and none.
func TestStepRows(t *testing.T) {
	a := api.Adam{Lr: 16, B1: 128, B2: 128, Eps: 1}
	told := stepped(t, a, 8, [2]int64{128, 128}, api.Rows{W: []int64{0, 300, 77}, M: []int64{0, 0, 0}, V: []int64{0, 0, 0}, G: []int64{256, -256, 0}})
	if !isTold(told, []int64{-16, 316, 77}, []int64{128, -128, 0}, []int64{128, 128, 0}) {
		t.Errorf("told: %v", told)
	}
	for _, l := range []api.Rows{{}, {W: []int64{}, M: []int64{}, V: []int64{}, G: []int64{}}, {W: []int64{}}} {
		for _, f := range fracs {
			if told, e := adam.Step(api.Adam{Lr: most, Eps: most}, f, [2]int64{}, l); e != api.OK || !none(told) {
				t.Errorf("Step of %v, f %d: %v %d", l, f, told, e)
			}
		}
	}
}

// tryStep holds a step of one place against the Words: what is told, or that something is not there.
func tryStep(t *testing.T, a api.Adam, f int, p [2]int64, l place) bool {
	t.Helper()
	told, e := adam.Step(a, f, p, l.rows())
	w, m, v, _, there := stepOf(a, f, p, l)
	if !there {
		if e != api.ErrRange || !none(told) {
			t.Fatalf("Step of %v by %v, f %d, powers %d: %v %d, not %d", l, a, f, p, told, e, api.ErrRange)
		}
		return false
	}
	if e != api.OK || !isTold(told, []int64{w.Int64()}, []int64{m.Int64()}, []int64{v.Int64()}) {
		t.Fatalf("Step of %v by %v, f %d, powers %d: %v %d, not %v %v %v", l, a, f, p, told, e, w, m, v)
	}
	return true
}

// P18.1: steps by all sorts of adams, of small numbers and of edges.
func TestStep(t *testing.T) {
	small := []int64{0, 1, -2, 127, -128, 1000}
	for _, f := range fracs {
		one := int64(1) << f
		for _, a := range adams(f) {
			for i, w := range small {
				for _, g := range small {
					tryStep(t, a, f, [2]int64{a.B1, a.B2}, place{w, small[(i+3)%6], max(small[(i+1)%6], 0), g})
					tryStep(t, a, f, [2]int64{one - 1, one / 2}, place{w, 0, 0, g})
				}
			}
			for _, w := range edges[10:] {
				tryStep(t, a, f, [2]int64{}, place{w, 0, 0, 1})
				tryStep(t, a, f, [2]int64{}, place{1, w, 0, 1})
				tryStep(t, a, f, [2]int64{}, place{1, 0, max(w, 0), 1})
				tryStep(t, a, f, [2]int64{}, place{1, 0, 0, w})
			}
		}
	}
}

// P18.1: steps by adams and of numbers that are drawn; both ends come up often.
func TestStepDrawn(t *testing.T) {
	d := draw(3)
	var there, not int
	for range 60000 {
		f := d.below(api.MaxFrac + 1)
		a := d.adam(f)
		if d.below(8) == 0 {
			a.Lr = most & d.number()
		}
		if d.below(8) == 0 {
			a.Eps = max(most&d.number(), 1)
		}
		p := d.powers(f)
		for _, l := range []place{{d.number(), d.number(), most & d.number(), d.number()}, d.place()} {
			if tryStep(t, a, f, p, l) {
				there++
			} else {
				not++
			}
		}
	}
	if there < 20000 || not < 20000 {
		t.Errorf("%d there, %d not", there, not)
	}
}

// P18.1: an adam that is not right, powers that are behind no step, and a V below 0 are told ahead of all else.
func TestStepArg(t *testing.T) {
	rows := []api.Rows{{}, place{1, 2, 3, 4}.rows(), place{most, most, most, most}.rows(), place{least, least, 0, least}.rows(), {W: []int64{1}}, {W: []int64{1}, M: []int64{most}, V: []int64{1}, G: []int64{most, 1}}, {V: []int64{1}}}
	try := func(a api.Adam, f int, p [2]int64, l api.Rows) {
		if told, e := adam.Step(a, f, p, l); e != api.ErrArg || !none(told) {
			t.Errorf("Step of %v by %v, f %d, powers %d: %v %d", l, a, f, p, told, e)
		}
	}
	for _, l := range rows {
		for _, f := range fracs {
			one := int64(1) << f
			for _, a := range wrong(f) {
				try(a, f, [2]int64{}, l)
			}
			for _, n := range []int64{one, one + 1, 2 * one, most, -1, -one, least} {
				for _, p := range [][2]int64{{n, 0}, {0, n}, {n, n}, {one - 1, n}} {
					try(api.Adam{Eps: 1}, f, p, l)
					try(api.Adam{Lr: 1, Eps: 1, Apart: true}, f, p, l)
				}
			}
		}
		for _, f := range noFracs {
			for _, a := range []api.Adam{{Eps: 1}, {Lr: 256, B1: 255, B2: 255, Eps: 1, Wd: 256, Apart: true}, {}} {
				try(a, f, [2]int64{}, l)
			}
		}
	}
	for _, v := range []int64{-1, -2, -most, least} {
		for long := 1; long < 5; long++ {
			for at := range long {
				row := make([]int64, long)
				row[at] = v
				for _, l := range []api.Rows{{W: make([]int64, long), M: make([]int64, long), V: row, G: make([]int64, long)}, {V: row}, {W: []int64{1}, V: row}, {W: slices.Repeat([]int64{most}, long), M: slices.Repeat([]int64{most}, long), V: row, G: slices.Repeat([]int64{most}, long)}} {
					try(api.Adam{Lr: 1, Eps: 1}, 8, [2]int64{}, l)
					try(api.Adam{Eps: 1, Apart: true}, 8, [2]int64{255, 255}, l)
				}
			}
		}
	}
}

// P18.1: all four rows are as long, ahead of what is not there.
func TestStepShape(t *testing.T) {
	a := api.Adam{Lr: 512, B1: 128, B2: 128, Eps: 1, Wd: 256}
	for lengths := range 81 {
		w, m, v, g := lengths/27, lengths/9%3, lengths/3%3, lengths%3
		for _, n := range []int64{0, 1, most, least} {
			l := api.Rows{W: slices.Repeat([]int64{n}, w), M: slices.Repeat([]int64{n}, m), V: slices.Repeat([]int64{max(n, 0)}, v), G: slices.Repeat([]int64{n}, g)}
			told, e := adam.Step(a, 8, [2]int64{}, l)
			want := api.ErrShape
			if w == m && w == v && w == g {
				want = api.OK
				if w > 0 && (n == most || n == least) {
					want = api.ErrRange
				}
			}
			if e != want || e != api.OK && !none(told) {
				t.Errorf("Step of %v: %v %d, not %d", l, told, e, want)
			}
		}
	}
}

// ended is a step of one place, and the error that it has.
type ended struct {
	a api.Adam
	f int
	p [2]int64
	l place
	e api.Errno
}

// ranges are steps that go up to an end and, with one more, beyond it, for each reckoning that may be not there.
func ranges() []ended {
	none := [2]int64{}
	const root = 3037000499 // the greatest whose square is there
	halves := [2]int64{1 << 39, 1 << 39}
	big := int64(1) << 62
	return []ended{
		{api.Adam{Eps: 1}, 0, none, place{g: root}, api.OK}, // the square of d
		{api.Adam{Eps: 1}, 0, none, place{g: root + 1}, api.ErrRange},
		{api.Adam{Eps: 1}, 0, none, place{g: -root}, api.OK},
		{api.Adam{Eps: 1}, 0, none, place{g: -root - 1}, api.ErrRange},
		{api.Adam{Eps: 1, Apart: true}, 0, none, place{g: -root - 1}, api.ErrRange},
		{api.Adam{Eps: 1, Wd: 1}, 0, none, place{w: root - 5, g: 5}, api.OK}, // d itself
		{api.Adam{Eps: 1, Wd: 1}, 0, none, place{w: root - 5, g: 6}, api.ErrRange},
		{api.Adam{Eps: 1, Wd: 1, Apart: true}, 0, none, place{w: root - 5, g: 6}, api.OK},
		{api.Adam{Eps: 1, Wd: 1}, 0, none, place{w: most, g: most}, api.ErrRange}, // its sum would go round to -2
		{api.Adam{Eps: 1, Wd: 1}, 0, none, place{w: least, g: least}, api.ErrRange},
		{api.Adam{Eps: 1, Wd: 1}, 0, none, place{w: most, g: least}, api.OK},
		{api.Adam{Eps: 1, B2: 128}, 8, none, place{v: most - 1, g: 32}, api.OK}, // the new v: 2^62 - 1 and 2
		{api.Adam{Eps: 1 << 20, B1: 1<<40 - 1, B2: 1<<40 - 1}, 40, none, place{m: most, v: most}, api.OK},
		{api.Adam{Eps: 1, B1: 1<<40 - 1}, 40, [2]int64{1 << 39, 0}, place{m: 1 << 62, g: 0}, api.ErrRange}, // a
		{api.Adam{Eps: most, B1: 1 << 39}, 40, [2]int64{1 << 39, 0}, place{m: big, g: 0}, api.OK},
		{api.Adam{Eps: 1 << 50, B1: 1 << 39}, 40, halves, place{m: most, g: 0}, api.ErrRange},
		{api.Adam{Eps: 1 << 50, B1: 1 << 39}, 40, halves, place{m: most - 1, g: 0}, api.OK},
		{api.Adam{Eps: 1 << 50, B1: 1 << 39}, 40, halves, place{m: least, g: 0}, api.OK},
		{api.Adam{Eps: 1 << 50, B1: 1<<39 + 1}, 40, halves, place{m: least, g: 0}, api.ErrRange},
		{api.Adam{Eps: 1 << 50, B2: 1 << 39}, 40, halves, place{v: most}, api.ErrRange}, // b
		{api.Adam{Eps: 1 << 50, B2: 1 << 39}, 40, halves, place{v: most - 1}, api.OK},
		{api.Adam{Eps: most - 16}, 8, none, place{g: 16}, api.OK}, // the root and epsilon
		{api.Adam{Eps: most - 15}, 8, none, place{g: 16}, api.ErrRange},
		{api.Adam{Eps: 1 << 40, B1: 1 << 39}, 40, none, place{m: most}, api.OK}, // u
		{api.Adam{Eps: 1 << 39, B1: 1 << 39}, 40, none, place{m: most}, api.ErrRange},
		{api.Adam{Eps: 1 << 39, B1: 1 << 39}, 40, none, place{m: most - 1}, api.OK},
		{api.Adam{Eps: 1 << 39, B1: 1 << 39}, 40, none, place{m: least}, api.OK},
		{api.Adam{Eps: 1, B1: 1 << 39}, 40, none, place{m: 1 << 24}, api.ErrRange},
		{api.Adam{Eps: 1, B1: 1 << 39}, 40, none, place{m: 1<<24 - 1}, api.ErrRange}, // its half is the even one of two
		{api.Adam{Eps: 1, B1: 1 << 39}, 40, none, place{m: 1<<24 - 2}, api.OK},
		{api.Adam{Eps: 1, B1: 1 << 39}, 40, none, place{m: -1 << 24}, api.OK},
		{api.Adam{Lr: 3, B1: 4, Eps: 8}, 3, none, place{w: -1, m: 2 * (most / 3), v: 0}, api.OK}, // the product with the rate
		{api.Adam{Lr: most, B1: 4, Eps: 8}, 3, none, place{m: 16}, api.OK},
		{api.Adam{Lr: most, B1: 4, Eps: 8}, 3, none, place{m: 18}, api.ErrRange},
		{api.Adam{Lr: most, B1: 4, Eps: 8}, 3, none, place{w: most, m: 18}, api.ErrRange}, // the weight would not be beyond
		{api.Adam{Lr: 8, B1: 4, Eps: 8}, 3, none, place{w: most - 5, m: -10}, api.OK},     // the weight
		{api.Adam{Lr: 8, B1: 4, Eps: 8}, 3, none, place{w: most - 5, m: -12}, api.ErrRange},
		{api.Adam{Lr: 8, B1: 4, Eps: 8}, 3, none, place{w: least + 5, m: 10}, api.OK},
		{api.Adam{Lr: 8, B1: 4, Eps: 8}, 3, none, place{w: least + 5, m: 12}, api.ErrRange},
		{api.Adam{Lr: 16, Eps: 8, Wd: 8, Apart: true}, 3, none, place{w: most}, api.ErrRange}, // the decay apart: 2 times w
		{api.Adam{Lr: 16, Eps: 8, Wd: 8, Apart: true}, 3, none, place{w: 1 << 62}, api.ErrRange},
		{api.Adam{Lr: 16, Eps: 8, Wd: 8, Apart: true}, 3, none, place{w: 1<<62 - 1}, api.OK},
		{api.Adam{Lr: 16, Eps: 8, Wd: 8, Apart: true}, 3, none, place{w: -1 << 62}, api.OK},
		{api.Adam{Lr: 16, Eps: 8, Wd: 8, Apart: true}, 3, none, place{w: -1<<62 - 1}, api.ErrRange},
		{api.Adam{Lr: most, Eps: 8, Wd: 8, Apart: true}, 3, none, place{w: 8}, api.OK},
		{api.Adam{Lr: most, Eps: 8, Wd: 8, Apart: true}, 3, none, place{w: 9}, api.ErrRange},
		{api.Adam{Lr: most, Eps: 8, Wd: 8}, 3, none, place{}, api.OK},
		{api.Adam{Lr: 8, B1: 4, Eps: 8, Wd: 8, Apart: true}, 3, none, place{w: -5, m: -10}, api.OK},
		{api.Adam{Lr: 8, B1: 4, Eps: 8, Wd: 8, Apart: true}, 3, none, place{w: most - 5, m: -12}, api.ErrRange}, // it is beyond ahead of the decay
	}
}

// P18.1: each reckoning that is not there is told, in whichever place it is.
func TestStepRange(t *testing.T) {
	for i, x := range ranges() {
		if there := tryStep(t, x.a, x.f, x.p, x.l); there != (x.e == api.OK) {
			t.Errorf("%d: %v is there: %t", i, x, there)
		}
		for long := 1; long < 6; long++ {
			for at := range long {
				l := api.Rows{W: make([]int64, long), M: make([]int64, long), V: make([]int64, long), G: make([]int64, long)}
				l.W[at], l.M[at], l.V[at], l.G[at] = x.l.w, x.l.m, x.l.v, x.l.g
				told, e := adam.Step(x.a, x.f, x.p, l)
				if e != x.e || e != api.OK && !none(told) || e == api.OK && len(told.W) != long {
					t.Errorf("%d: Step of %v: %v %d, not %d", i, l, told, e, x.e)
				}
			}
		}
	}
}

// isNear: is n at most so many halves of a step from b times x, and 1 less b times y? Both have more fraction bits than n.
func isNear(n, b int64, x, y *big.Int, f, more uint, halves int64) bool {
	beta, rest := big.NewInt(b), big.NewInt(1<<f-b)
	off := new(big.Int).Add(beta.Mul(beta, x), rest.Mul(rest, y))
	whole := big.NewInt(n)
	off.Sub(off, whole.Lsh(whole, f+more))
	far := big.NewInt(halves)
	return off.Abs(off).Lsh(off, 1).Cmp(far.Lsh(far, f+more)) <= 0
}

// P18.2: a new m is at most one step from B1 times m and 1 less B1 times d; a new v at most one and a half from the like of v and d's square, and not below 0.
func TestNear(t *testing.T) {
	d := draw(4)
	var tried int
	for range 20000 {
		f := d.below(api.MaxFrac + 1)
		a := d.adam(f)
		p := d.powers(f)
		l := d.place()
		_, _, _, n, there := stepOf(a, f, p, l)
		if !there {
			continue
		}
		tried++
		told := stepped(t, a, f, p, l.rows())
		if !isNear(told.M[0], a.B1, big.NewInt(l.m), n, uint(f), 0, 2) {
			t.Fatalf("the first moment of %v by %v, f %d: %v", l, a, f, told)
		}
		v := big.NewInt(l.v) // with as many bits as d's square
		if told.V[0] < 0 || !isNear(told.V[0], a.B2, v.Lsh(v, uint(f)), n.Mul(n, n), uint(f), uint(f), 3) {
			t.Fatalf("the second moment of %v by %v, f %d: %v", l, a, f, told)
		}
	}
	if tried < 10000 {
		t.Errorf("%d tried", tried)
	}
}

// P18.4: a place is told as it is alone, whatever stands beside it and wherever it stands.
func TestApart(t *testing.T) {
	d := draw(5)
	var tried int
	for range 1000 {
		f := d.below(api.MaxFrac + 1)
		a := d.adam(f)
		p := d.powers(f)
		long := 1 + d.below(30)
		l := d.rows(long)
		told, e := adam.Step(a, f, p, l)
		var there bool
		for i := range long {
			alone, e := adam.Step(a, f, p, place{l.W[i], l.M[i], l.V[i], l.G[i]}.rows())
			if there = e == api.OK; !there {
				break
			}
			if len(told.W) == long && !isTold(alone, told.W[i:i+1], told.M[i:i+1], told.V[i:i+1]) {
				t.Fatalf("place %d of %v by %v, f %d: %v, alone %v", i, l, a, f, told, alone)
			}
		}
		if (e == api.OK) != there || e == api.OK && len(told.W) != long {
			t.Fatalf("%v by %v, f %d: %v %d", l, a, f, told, e)
		}
		if !there {
			continue
		}
		tried++
		back := api.Rows{W: slices.Clone(l.W), M: slices.Clone(l.M), V: slices.Clone(l.V), G: slices.Clone(l.G)}
		for _, row := range [][]int64{back.W, back.M, back.V, back.G, told.W, told.M, told.V} {
			slices.Reverse(row)
		}
		if turned := stepped(t, a, f, p, back); !isTold(turned, told.W, told.M, told.V) {
			t.Fatalf("%v turned by %v, f %d: %v, not %v", l, a, f, turned, told)
		}
	}
	if tried < 300 {
		t.Errorf("%d tried", tried)
	}
}

// P18.4: of many places each is as the Words say.
func TestApartMany(t *testing.T) {
	d := draw(6)
	l := d.rows(5000)
	for _, apart := range []bool{false, true} {
		a := api.Adam{Lr: 77, B1: 230, B2: 255, Eps: 1, Wd: 3, Apart: apart}
		p := [2]int64{207, 254}
		told := stepped(t, a, 8, p, l)
		for i := range l.W {
			w, m, v, _, _ := stepOf(a, 8, p, place{l.W[i], l.M[i], l.V[i], l.G[i]})
			if told.W[i] != w.Int64() || told.M[i] != m.Int64() || told.V[i] != v.Int64() {
				t.Fatalf("place %d by %v: %d %d %d, not %v %v %v", i, a, told.W[i], told.M[i], told.V[i], w, m, v)
			}
		}
	}
}

// P18.1: step by step, each by the powers behind it, as the Words say.
func TestGoesOn(t *testing.T) {
	d := draw(7)
	a := api.Adam{Lr: 1 << 10, B1: 58982, B2: 65470, Eps: 7, Wd: 655}
	for _, a.Apart = range []bool{false, true} {
		p := [2]int64{1 << 16, 1 << 16}
		l := place{w: 100000}
		for range 300 {
			p = adam.Powers(a, 16, p)
			l.g = d.modest() >> 4
			w, m, v, _, _ := stepOf(a, 16, p, l)
			told := stepped(t, a, 16, p, l.rows())
			l = place{w: told.W[0], m: told.M[0], v: told.V[0]}
			if l.w != w.Int64() || l.m != m.Int64() || l.v != v.Int64() {
				t.Fatalf("told: %v, not %v %v %v", told, w, m, v)
			}
		}
	}
}

// P18.1: without a gradient and moments weights stay, if there is no decay.
func TestStays(t *testing.T) {
	for _, f := range fracs {
		for _, a := range adams(f) {
			for _, w := range edges {
				a.Wd = 0
				if told := stepped(t, a, f, [2]int64{a.B1, a.B2}, place{w: w}.rows()); !isTold(told, []int64{w}, []int64{0}, []int64{0}) {
					t.Fatalf("Step of %d by %v, f %d: %v", w, a, f, told)
				}
			}
		}
	}
}

// P18.1, R4 and R5: what is handed in is not changed, nor what lies behind its end; nor is what was told by what comes later.
func TestKept(t *testing.T) {
	room := []int64{1000, 500, 8, 20, 40, 9, 64, 32, 7, 256, -256, 5}
	l := api.Rows{W: room[0:2], M: room[3:5], V: room[6:8], G: room[9:11]}
	a := api.Adam{Lr: 256, B1: 128, B2: 128, Eps: 256, Wd: 64, Apart: true}
	p := [2]int64{128, 128}
	first := stepped(t, a, 8, p, l)
	again := stepped(t, a, 8, p, l)
	if !slices.Equal(room, []int64{1000, 500, 8, 20, 40, 9, 64, 32, 7, 256, -256, 5}) {
		t.Errorf("changed: %v", room)
	}
	w, m, v := slices.Clone(first.W), slices.Clone(first.M), slices.Clone(first.V)
	next := stepped(t, a, 8, p, api.Rows{W: first.W, M: first.M, V: first.V, G: l.G})
	nw, nm, nv := slices.Clone(next.W), slices.Clone(next.M), slices.Clone(next.V)
	if !isTold(first, w, m, v) || !isTold(again, w, m, v) || !isTold(first, []int64{620, 480}, []int64{138, -108}, []int64{160, 144}) {
		t.Errorf("told: %v, and then %v", first, again)
	}
	for i := range room {
		room[i] = -1
	}
	for _, row := range [][]int64{first.W, first.M, first.V} {
		row[0] = 5
		_ = append(row[:1], 6, 7, 8)
	}
	if !isTold(next, nw, nm, nv) || !isTold(again, w, m, v) {
		t.Errorf("told: %v, and then %v", again, next)
	}
}

// P18.1: weights and both moments may be one row, and so may gradients.
func TestShared(t *testing.T) {
	row := []int64{10, 200, 3000}
	a := api.Adam{Lr: 256, B1: 128, B2: 128, Eps: 256}
	told := stepped(t, a, 8, [2]int64{}, api.Rows{W: row, M: row, V: row, G: row})
	for i, n := range []int64{10, 200, 3000} {
		w, m, v, _, _ := stepOf(a, 8, [2]int64{}, place{n, n, n, n})
		if told.W[i] != w.Int64() || told.M[i] != m.Int64() || told.V[i] != v.Int64() || row[i] != n {
			t.Errorf("told: %v of %v", told, row)
		}
	}
}
