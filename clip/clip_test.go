package clip_test

import (
	"math"
	"math/big"
	"slices"
	"testing"

	"ratchet/api"
	"ratchet/clip"
)

const (
	most  = math.MaxInt64
	least = math.MinInt64
)

var (
	small = []int64{0, 1, -1, 2, -2, 3, -3, 4, -5, 7, 100, -255}
	edges = []int64{0, 1, -1, 2, -3, 255, -256, 1 << 31, 3037000499, 3037000500, -3037000500, 1<<32 - 1, 1 << 32, -1<<32 - 1, 1 << 62, -1 << 62, 1<<62 + 1, most - 1, most, least + 1, least}
)

// draw is a source of numbers that is the same in every run.
type draw uint64

func (d *draw) next() uint64 {
	*d += 0x9e3779b97f4a7c15
	z := uint64(*d)
	z = (z ^ z>>30) * 0xbf58476d1ce4e5b9
	z = (z ^ z>>27) * 0x94d049bb133111eb
	return z ^ z>>31
}

func (d *draw) below(n int) int {
	return int(d.next() % uint64(n))
}

// number is one of any size, often an edge.
func (d *draw) number() int64 {
	if d.below(4) == 0 {
		return edges[d.below(len(edges))]
	}
	return int64(d.next()) >> d.below(64)
}

func (d *draw) row(long int) []int64 {
	row := make([]int64, long)
	for i := range row {
		row[i] = d.number()
	}
	return row
}

func natOf(n *big.Int) api.Nat {
	var limbs api.Nat
	for _, w := range n.Bits() {
		limbs = append(limbs, uint64(w))
	}
	return limbs
}

func bigOf(n api.Nat) *big.Int {
	sum := new(big.Int)
	for _, limb := range slices.Backward(n) {
		sum.Lsh(sum, 64).Or(sum, new(big.Int).SetUint64(limb))
	}
	return sum
}

func squares(l [][]int64) *big.Int {
	sum := new(big.Int)
	for _, row := range l {
		for _, a := range row {
			n := big.NewInt(a)
			sum.Add(sum, n.Mul(n, n))
		}
	}
	return sum
}

// normOf is the least number whose square is at least the sum of squares.
func normOf(l [][]int64) *big.Int {
	sum := squares(l)
	n := new(big.Int).Sqrt(sum)
	if new(big.Int).Mul(n, n).Cmp(sum) < 0 {
		n.Add(n, big.NewInt(1))
	}
	return n
}

// meanOf is what the Words say of a place.
func meanOf(l [][]int64, place int) int64 {
	twice := new(big.Int)
	for _, row := range l {
		twice.Add(twice, big.NewInt(row[place]))
	}
	rows := big.NewInt(int64(len(l)))
	twice.Lsh(twice, 1).Add(twice, rows)
	n, left := new(big.Int).DivMod(twice, new(big.Int).Lsh(rows, 1), new(big.Int))
	if left.Sign() == 0 && n.Bit(0) == 1 { // both are as near
		n.Sub(n, big.NewInt(1))
	}
	return n.Int64()
}

// partOf is a times limit by norm, toward nought.
func partOf(a int64, norm *big.Int, limit int64) int64 {
	n := new(big.Int).Mul(big.NewInt(a), big.NewInt(limit))
	return n.Quo(n, norm).Int64()
}

func meaned(t *testing.T, l [][]int64) []int64 {
	t.Helper()
	m, e := clip.Mean(l)
	if e != api.OK {
		t.Fatalf("Mean of %v: %d", l, e)
	}
	return m
}

func clipped(t *testing.T, l []int64, norm api.Nat, limit int64) []int64 {
	t.Helper()
	m, e := clip.Clip(l, norm, limit)
	if e != api.OK {
		t.Fatalf("Clip of %v by %v and %d: %d", l, norm, limit, e)
	}
	return m
}

// rows are some of all shapes: none, rows without numbers, single numbers, and what is drawn.
func rows() [][][]int64 {
	all := [][][]int64{nil, {}, {nil}, {{}}, {nil, {}, nil}}
	for _, a := range edges {
		all = append(all, [][]int64{{a}}, [][]int64{{0, a}}, [][]int64{{a, a, a}})
		for _, b := range edges {
			all = append(all, [][]int64{{a, b}}, [][]int64{{a}, {b}}, [][]int64{{a}, {b}, {b}}, [][]int64{{b, 1}, {a, 2}, {a, 3}, {b, 4}})
		}
	}
	for _, a := range small {
		for _, b := range small {
			for _, c := range small {
				all = append(all, [][]int64{{a, b, c}}, [][]int64{{a}, {b}, {c}}, [][]int64{{a, b}, {b, c}, {c, a}, {1, c}})
			}
		}
	}
	d := draw(1)
	for range 3000 {
		l := make([][]int64, 1+d.below(20))
		long := d.below(8)
		for i := range l {
			l[i] = d.row(long)
		}
		all = append(all, l)
	}
	return all
}

// P16.1, Q1: means by hand: to the nearest, of two as near the even one.
func TestMeanByHand(t *testing.T) {
	for _, x := range []struct {
		l    [][]int64
		want []int64
	}{
		{[][]int64{{7}}, []int64{7}},
		{[][]int64{{7, -8, 0}}, []int64{7, -8, 0}},
		{[][]int64{{1, 2}, {3, 4}}, []int64{2, 3}},
		{[][]int64{{0}, {1}}, []int64{0}},
		{[][]int64{{1}, {2}}, []int64{2}},
		{[][]int64{{2}, {3}}, []int64{2}},
		{[][]int64{{3}, {4}}, []int64{4}},
		{[][]int64{{0}, {-1}}, []int64{0}},
		{[][]int64{{-1}, {-2}}, []int64{-2}},
		{[][]int64{{-2}, {-3}}, []int64{-2}},
		{[][]int64{{0}, {0}, {1}}, []int64{0}},
		{[][]int64{{0}, {1}, {1}}, []int64{1}},
		{[][]int64{{0}, {-1}, {-1}}, []int64{-1}},
		{[][]int64{{0}, {0}, {0}, {2}}, []int64{0}},
		{[][]int64{{0}, {0}, {0}, {3}}, []int64{1}},
		{[][]int64{{0}, {1}, {2}, {3}}, []int64{2}},
		{[][]int64{{0}, {0}, {1}, {1}, {1}, {0}}, []int64{0}},
		{[][]int64{{most}, {most}, {most}}, []int64{most}},
		{[][]int64{{least}, {least}, {least}}, []int64{least}},
		{[][]int64{{most}, {least}}, []int64{0}},
		{[][]int64{{most}, {most - 1}}, []int64{most - 1}},
		{[][]int64{{least}, {least + 1}}, []int64{least}},
		{[][]int64{{most, least}, {most, least}, {0, 0}, {0, 0}}, []int64{1 << 62, -1 << 62}},
		{[][]int64{{}}, nil},
		{[][]int64{nil, {}, nil}, nil},
	} {
		if m, e := clip.Mean(x.l); !slices.Equal(m, x.want) || e != api.OK {
			t.Errorf("Mean of %v: %v %d, not %v", x.l, m, e, x.want)
		}
	}
}

// P16.1, Q1: means of all rows, place by place.
func TestMean(t *testing.T) {
	for _, l := range rows() {
		if len(l) == 0 {
			continue
		}
		m := meaned(t, l)
		if len(m) != len(l[0]) {
			t.Fatalf("Mean of %v: %v", l, m)
		}
		for place, n := range m {
			if want := meanOf(l, place); n != want {
				t.Fatalf("Mean of %v: %d at %d, not %d", l, n, place, want)
			}
		}
	}
}

// P16.1, Q1: of many rows, and of long ones.
func TestMeanMany(t *testing.T) {
	d := draw(2)
	for _, x := range []struct{ many, long int }{{2, 4096}, {16, 512}, {1000, 3}, {65537, 1}} {
		l := make([][]int64, x.many)
		for i := range l {
			l[i] = d.row(x.long)
		}
		for place, n := range meaned(t, l) {
			if want := meanOf(l, place); n != want {
				t.Fatalf("Mean of %d rows of %d: %d at %d, not %d", x.many, x.long, n, place, want)
			}
		}
	}
}

// P16.1, Q1: without any rows there is no mean.
func TestMeanNone(t *testing.T) {
	for _, l := range [][][]int64{nil, {}, make([][]int64, 0, 5)} {
		if m, e := clip.Mean(l); len(m) != 0 || e != api.ErrNone {
			t.Errorf("Mean of no rows: %v %d", m, e)
		}
	}
}

// P16.1, Q1: rows that are not all as long, whichever it is, have none.
func TestMeanShape(t *testing.T) {
	for many := 2; many < 6; many++ {
		for other := range many {
			for _, long := range []int{0, 1, 2, 3, 5} {
				l := make([][]int64, many)
				for i := range l {
					l[i] = []int64{5, 6, 7, 8}[:min(4, many)]
				}
				l[other] = make([]int64, long)
				if long == min(4, many) {
					continue
				}
				if m, e := clip.Mean(l); len(m) != 0 || e != api.ErrShape {
					t.Errorf("Mean of %v: %v %d", l, m, e)
				}
			}
		}
	}
	for _, l := range [][][]int64{{nil, {1}}, {{1}, {}}, {{}, {}, {1}}, {{1, 2}, {3}, {4, 5}}, {{1}, {2, 3}}} {
		if m, e := clip.Mean(l); len(m) != 0 || e != api.ErrShape {
			t.Errorf("Mean of %v: %v %d", l, m, e)
		}
	}
}

// P16.4: a mean lies between the least and the greatest, at most half a step from what is exact.
func TestMeanLaw(t *testing.T) {
	for _, l := range rows() {
		if len(l) == 0 {
			continue
		}
		for place, n := range meaned(t, l) {
			low, high := l[0][place], l[0][place]
			off := times(n, int64(len(l)))
			for _, row := range l {
				low, high = min(low, row[place]), max(high, row[place])
				off.Sub(off, big.NewInt(row[place]))
			}
			if n < low || n > high {
				t.Fatalf("Mean of %v: %d at %d is not from %d to %d", l, n, place, low, high)
			}
			if off.Abs(off).Lsh(off, 1).Cmp(big.NewInt(int64(len(l)))) > 0 {
				t.Fatalf("Mean of %v: %d at %d is more than half a step off", l, n, place)
			}
		}
	}
}

func times(a, b int64) *big.Int {
	return new(big.Int).Mul(big.NewInt(a), big.NewInt(b))
}

// P16.1, Q2: norms by hand, the chapter's one ahead.
func TestNormByHand(t *testing.T) {
	for _, x := range []struct {
		l    [][]int64
		want api.Nat
	}{
		{[][]int64{{3, 4}}, api.Nat{5}},
		{[][]int64{{3}, {4}}, api.Nat{5}},
		{[][]int64{{-3}, {}, {-4}}, api.Nat{5}},
		{nil, nil},
		{[][]int64{{}}, nil},
		{[][]int64{nil, nil}, nil},
		{[][]int64{{0, 0}, {0}}, nil},
		{[][]int64{{1}}, api.Nat{1}},
		{[][]int64{{-1}}, api.Nat{1}},
		{[][]int64{{1, 1}}, api.Nat{2}},
		{[][]int64{{1, 1, 1, 1}}, api.Nat{2}},
		{[][]int64{{1, 1, 1}, {1, 1}}, api.Nat{3}},
		{[][]int64{{300, -400}}, api.Nat{500}},
		{[][]int64{{300, 400, 1}}, api.Nat{501}},
		{[][]int64{{most}}, api.Nat{most}},
		{[][]int64{{least}}, api.Nat{1 << 63}},
		{[][]int64{{least, least}}, api.Nat{13043817825332782213}},
		{[][]int64{{least, least}, {least, least}}, api.Nat{0, 1}},
		{[][]int64{{least, 1}, {least, least}, {least}}, api.Nat{1, 1}},
		{[][]int64{{most, most, most, most}}, api.Nat{1<<64 - 2}},
	} {
		if n := clip.Norm(x.l); !slices.Equal(n, x.want) {
			t.Errorf("Norm of %v: %v, not %v", x.l, n, x.want)
		}
	}
}

// P16.1, Q2: norms of all rows: the root of the sum of squares, up, as a right number.
func TestNorm(t *testing.T) {
	for _, l := range rows() {
		if n, want := clip.Norm(l), natOf(normOf(l)); !slices.Equal(n, want) {
			t.Fatalf("Norm of %v: %v, not %v", l, n, want)
		}
	}
}

// P16.1, Q2: a norm may be of rows that are not as long, and of many numbers.
func TestNormMany(t *testing.T) {
	d := draw(3)
	for range 300 {
		l := make([][]int64, d.below(10))
		for i := range l {
			l[i] = d.row(d.below(30))
		}
		if n, want := clip.Norm(l), natOf(normOf(l)); !slices.Equal(n, want) {
			t.Fatalf("Norm of %v: %v, not %v", l, n, want)
		}
	}
	for _, a := range []int64{1, -255, 1 << 40, most, least} {
		l := [][]int64{slices.Repeat([]int64{a}, 4096), slices.Repeat([]int64{a}, 61440)} // 256 times 256 in all
		if n, want := clip.Norm(l), natOf(new(big.Int).Lsh(new(big.Int).Abs(big.NewInt(a)), 8)); !slices.Equal(n, want) {
			t.Errorf("Norm of %d, 65536 times: %v, not %v", a, n, want)
		}
	}
}

// P16.1, Q2: what is clipped, by hand, the chapter's one ahead.
func TestClipByHand(t *testing.T) {
	for _, x := range []struct {
		l    []int64
		norm api.Nat
		most int64
		want []int64
	}{
		{[]int64{3, 4}, api.Nat{5}, 2, []int64{1, 1}},
		{[]int64{-3, -4}, api.Nat{5}, 2, []int64{-1, -1}},
		{[]int64{300, -400}, api.Nat{500}, 256, []int64{153, -204}},
		{[]int64{3, 4}, api.Nat{5}, 5, []int64{3, 4}},
		{[]int64{3, 4}, api.Nat{5}, 6, []int64{3, 4}},
		{[]int64{3, 4}, api.Nat{5}, 4, []int64{2, 3}},
		{[]int64{3, 4}, api.Nat{5}, 0, []int64{3, 4}},
		{[]int64{3, 4}, api.Nat{5}, 1, []int64{0, 0}},
		{[]int64{-3, -4, 5, -5, -6}, api.Nat{5}, 1, []int64{0, 0, 1, -1, -1}},
		{[]int64{0, 9}, nil, 0, []int64{0, 9}},
		{[]int64{0, 9}, nil, 1, []int64{0, 9}},
		{[]int64{0, 9}, nil, most, []int64{0, 9}},
		{[]int64{9, -9}, api.Nat{1}, 1, []int64{9, -9}},
		{[]int64{9, -9}, api.Nat{2}, 1, []int64{4, -4}},
		{[]int64{most, least}, api.Nat{1 << 63}, most, []int64{most - 1, -most}},
		{[]int64{most, least}, api.Nat{most}, most, []int64{most, least}},
		{[]int64{most, least}, api.Nat{most}, most - 1, []int64{most - 1, 1 - most}},
		{[]int64{most, least, 1, -1}, api.Nat{0, 1}, most, []int64{1<<62 - 1, 1 - 1<<62, 0, 0}},
		{[]int64{most, least}, api.Nat{0, 0, 1}, most, []int64{0, 0}},
		{[]int64{most, least}, api.Nat{0, 1 << 63}, most, []int64{0, 0}},
		{[]int64{5, 6}, api.Nat{0, 1}, 0, []int64{5, 6}},
		{nil, api.Nat{5}, 2, nil},
		{[]int64{}, api.Nat{5}, 7, nil},
		{nil, nil, 0, nil},
	} {
		if m, e := clip.Clip(x.l, x.norm, x.most); !slices.Equal(m, x.want) || e != api.OK {
			t.Errorf("Clip of %v by %v and %d: %v %d, not %v", x.l, x.norm, x.most, m, e, x.want)
		}
	}
}

// norms are those at the edges of limbs, and about a limit.
func norms(limit int64) []*big.Int {
	all := []*big.Int{new(big.Int), big.NewInt(1), big.NewInt(2), big.NewInt(500), big.NewInt(most)}
	for _, n := range []uint{63, 64, 65, 127, 128, 200} {
		power := new(big.Int).Lsh(big.NewInt(1), n)
		all = append(all, power, new(big.Int).Sub(power, big.NewInt(1)), new(big.Int).Add(power, big.NewInt(1)))
	}
	for _, d := range []int64{-1, 0, 1} {
		if n := new(big.Int).Add(big.NewInt(limit), big.NewInt(d)); n.Sign() >= 0 {
			all = append(all, n)
		}
	}
	return append(all, new(big.Int).Lsh(big.NewInt(limit), 1), new(big.Int).Lsh(big.NewInt(limit), 64))
}

// P16.1, Q2: edge numbers, by norms that have nothing to do with them.
func TestClip(t *testing.T) {
	row := slices.Concat(edges, small)
	for _, limit := range edges {
		if limit < 0 {
			continue
		}
		for _, norm := range norms(limit) {
			m := clipped(t, row, natOf(norm), limit)
			if len(m) != len(row) {
				t.Fatalf("Clip by %v and %d: %v", norm, limit, m)
			}
			for i, a := range row {
				want := a
				if limit > 0 && norm.Cmp(big.NewInt(limit)) > 0 {
					want = partOf(a, norm, limit)
				}
				if m[i] != want {
					t.Fatalf("Clip of %d by %v and %d: %d, not %d", a, norm, limit, m[i], want)
				}
			}
		}
	}
}

// P16.1, Q2: below 0 there is no limit, whatever the numbers and their norm are.
func TestClipArg(t *testing.T) {
	for _, limit := range []int64{-1, -2, -255, -most, least} {
		for _, norm := range []api.Nat{nil, {1}, {5}, {1 << 63}, {0, 1}} {
			for _, l := range [][]int64{nil, {3, 4}, edges} {
				if m, e := clip.Clip(l, norm, limit); len(m) != 0 || e != api.ErrArg {
					t.Errorf("Clip of %v by %v and %d: %v %d", l, norm, limit, m, e)
				}
			}
		}
	}
}

// P16.2, P16.3: what is clipped by its own norm has a norm of at most most; all have their sides, and are no greater.
func TestClipLaws(t *testing.T) {
	d := draw(4)
	limits := func(norm *big.Int) []int64 {
		all := []int64{1, 2, 3, 255, 256, 1 << 62, most - 1, most, 1 + int64(d.next()>>1)>>d.below(63)}
		if norm.IsInt64() {
			n := norm.Int64()
			all = append(all, n/2, n/3, n-1, n, n+1)
		}
		return slices.DeleteFunc(all, func(limit int64) bool { return limit < 1 })
	}
	for _, l := range rows() {
		norm := clip.Norm(l)
		for _, limit := range limits(bigOf(norm)) {
			var less [][]int64
			for _, row := range l {
				m := clipped(t, row, norm, limit)
				for i, a := range row {
					if m[i] < min(a, 0) || m[i] > max(a, 0) {
						t.Fatalf("Clip of %d by %v and %d: %d", a, norm, limit, m[i])
					}
				}
				less = append(less, m)
			}
			if n := bigOf(clip.Norm(less)); n.Cmp(big.NewInt(limit)) > 0 {
				t.Fatalf("the norm of %v, clipped at %d: %v", l, limit, n)
			}
		}
	}
}

// P16.1, R4: what is handed in is not changed, nor what lies behind its end; nor is what was told, when it is changed afterwards.
func TestKept(t *testing.T) {
	room := []int64{30, -40, 7, 8}
	l := [][]int64{room[:2], {1, 2}, {3, 4}}[:2]
	norm := api.Nat{50, 9}[:1]
	m := meaned(t, l)
	clip.Norm(l)
	less, same := clipped(t, l[0], norm, 25), clipped(t, l[0], norm, 50)
	free := clipped(t, l[0], norm, 0)
	all := append(append(append(append(m, 1), append(less, 2)...), append(same, 3)...), append(free, 4)...)
	if !slices.Equal(all, []int64{16, -19, 1, 15, -20, 2, 30, -40, 3, 30, -40, 4}) {
		t.Errorf("told: %v", all)
	}
	if !slices.Equal(room, []int64{30, -40, 7, 8}) || !slices.Equal(norm[:2], api.Nat{50, 9}) || !slices.Equal(l[:3][2], []int64{3, 4}) {
		t.Errorf("changed: %v %v %v", room, norm[:2], l[:3])
	}
	room[0], m[0], less[0] = 9, 9, 9
	if same[0] != 30 || free[0] != 30 {
		t.Errorf("changed with what was handed in: %v %v", same, free)
	}
}

// P16.1, Q2: small norms about their numbers: nought is told on both sides where nothing whole is left.
func TestClipNought(t *testing.T) {
	for shift := range 63 {
		norm := new(big.Int).Lsh(big.NewInt(1), uint(shift+1))
		for _, a := range []int64{1<<shift - 1, 1 << shift, 1<<shift + 1<<shift/2, 1 - 1<<shift, -1 << shift} {
			for _, limit := range []int64{1, 2, 3} {
				if norm.Cmp(big.NewInt(limit)) <= 0 {
					continue
				}
				if m := clipped(t, []int64{a}, natOf(norm), limit); m[0] != partOf(a, norm, limit) {
					t.Errorf("Clip of %d by %v and %d: %d", a, norm, limit, m[0])
				}
			}
		}
	}
}
