package tens_test

import (
	"math"
	"math/big"
	"slices"
	"testing"

	"ratchet/api"
	"ratchet/block"
	"ratchet/book"
	"ratchet/tens"
)

var codebooks = []int{api.Tree, api.UTree, api.Line, api.ULine}

var noKinds = []int{api.Wide, -1, -2, -4, 5, 6, 8, 255, 256, -256, 1 << 32, 1<<32 + 2, math.MinInt, math.MaxInt}

func kept(t *testing.T, k api.Keep, l []int64) api.Store {
	t.Helper()
	s, e := tens.Of(k, l)
	if e != api.OK {
		t.Fatalf("Of(%v) of %d numbers: %d", k, len(l), e)
	}
	return s
}

func packed(t *testing.T, kind int, l ...int64) api.Block {
	t.Helper()
	b, e := block.Pack(kind, l)
	if e != api.OK {
		t.Fatalf("Pack(%d, %d): %d", kind, l, e)
	}
	return b
}

func none(s api.Store) bool {
	return s.Keep == api.Keep{} && s.Long == 0 && s.L == nil
}

// same asks of all parts one by one, and of blocks by their lists.
func same(a, b api.Store) bool {
	if a.Keep != b.Keep || a.Long != b.Long || len(a.L) != len(b.L) {
		return false
	}
	for i, x := range a.L {
		y := b.L[i]
		if x.Kind != y.Kind || x.Scale != y.Scale || !slices.Equal(x.Codes, y.Codes) || !slices.Equal(x.Wide, y.Wide) {
			return false
		}
	}
	return true
}

// above: is the greatest of these, whatever its side, above out? Nothing goes round.
func above(l []int64, out int64) bool {
	for _, n := range l {
		if new(big.Int).Abs(big.NewInt(n)).Cmp(big.NewInt(out)) > 0 {
			return true
		}
	}
	return false
}

// told is what the Words say that a row is kept as, each block by layer 11.
func told(k api.Keep, l []int64) (api.Store, api.Errno) {
	s := api.Store{Keep: k, Long: len(l)}
	for part := range slices.Chunk(l, k.Size) {
		kind := k.Kind
		if len(l) < k.Small || k.Out > 0 && above(part, k.Out) {
			kind = api.Wide
		}
		b, e := block.Pack(kind, part)
		if e != api.OK {
			return api.Store{}, e
		}
		s.L = append(s.L, b)
	}
	return s, api.OK
}

// mixer tells numbers of mixed bits, the same in every run.
func mixer() func() int64 {
	x := uint64(88172645463325252)
	return func() int64 {
		x ^= x << 13
		x ^= x >> 7
		x ^= x << 17
		return int64(x)
	}
}

func repeated(n int64, long int) []int64 {
	return slices.Repeat([]int64{n}, long)
}

// keeps are right ones, at the edges of each part.
func keeps() []api.Keep {
	var all []api.Keep
	for _, kind := range codebooks {
		for _, size := range []int{1, 2, 3, 5, 64, 4095, api.MaxBlock} {
			for _, small := range []int{0, 1, 5, 6, 7, math.MaxInt} {
				for _, out := range []int64{0, 1, 100, 1 << 40, math.MaxInt64} {
					all = append(all, api.Keep{Kind: kind, Size: size, Small: small, Out: out})
				}
			}
		}
	}
	return all
}

// rows are of all short lengths, of both sides and at the edges of 64 bits.
func rows() [][]int64 {
	all := [][]int64{
		nil, {0}, {1}, {-1}, {100}, {101}, {-100}, {-101}, {math.MaxInt64}, {-math.MaxInt64}, {0, 0, 0, 0, 0, 0},
		{1, 2, 3, 4, 5}, {1, 2, 3, 4, 5, 6}, {1, 100, 101, 100, 1, 1}, {-1, -100, -101, -100, -1, -1}, {0, 1, 0, -1, 2, -2, 0},
		{255, -255, 0}, {0, 5, 10}, {1 << 40, 1<<40 + 1, -1 << 40, -1<<40 - 1, 7, 0, 8, 0, 9},
		{math.MaxInt64, 0, -math.MaxInt64, 0, 1, 2, 3}, {100, 5, -3, 0, 101, 6, -7, 9},
	}
	next := mixer()
	for long := range 24 {
		var l []int64
		for i := range long {
			l = append(l, next()>>1>>(long*i%60)) // the least one of 64 bits is not among these
		}
		all = append(all, l)
	}
	return all
}

// longRows are as long as a row, or a block, may be, and nearly.
func longRows() [][]int64 {
	next := mixer()
	var all [][]int64
	for _, long := range []int{4094, 4095, api.MaxRow} {
		var l []int64
		for i := range long {
			l = append(l, next()>>1>>(i%62))
		}
		all = append(all, l)
	}
	return all
}

// may are the rows as they may be of this kind, what is below 0 turned, where it is not signed.
func may(kind int, all [][]int64) [][]int64 {
	if book.Signed(kind) {
		return all
	}
	var turned [][]int64
	for _, l := range all {
		l = slices.Clone(l)
		for i, n := range l {
			l[i] = max(n, -n)
		}
		turned = append(turned, l)
	}
	return turned
}

// eachKept goes through all keeps with all rows that they may keep.
func eachKept(t *testing.T, f func(k api.Keep, l []int64, s api.Store)) {
	t.Helper()
	all := rows()
	for _, k := range keeps() {
		for _, l := range may(k.Kind, all) {
			f(k, l, kept(t, k, l))
		}
	}
	for _, kind := range codebooks {
		for _, l := range may(kind, longRows()) {
			for _, size := range []int{1, 7, 64, 4095, api.MaxBlock} {
				k := api.Keep{Kind: kind, Size: size, Small: 4095, Out: 1 << 60}
				f(k, l, kept(t, k, l))
			}
		}
	}
}

// P14.1, N1: which keeps are right, a fault at a time.
func TestMay(t *testing.T) {
	for _, k := range keeps() {
		if !tens.May(k) {
			t.Errorf("May: no, of %v", k)
		}
		for _, kind := range noKinds {
			wrong := k
			wrong.Kind = kind
			if tens.May(wrong) {
				t.Errorf("May: yes, of %v", wrong)
			}
		}
		for _, size := range []int{0, -1, -2, api.MaxBlock + 1, api.MaxBlock + 2, math.MinInt, math.MaxInt} {
			wrong := k
			wrong.Size = size
			if tens.May(wrong) {
				t.Errorf("May: yes, of %v", wrong)
			}
		}
		for _, below := range []int{-1, -2, math.MinInt} {
			small, out := k, k
			small.Small, out.Out = below, int64(below)
			if tens.May(small) || tens.May(out) {
				t.Errorf("May: yes, of %v or %v", small, out)
			}
		}
	}
	if tens.May(api.Keep{}) {
		t.Error("May: yes, of none")
	}
}

// P14.1, N2: the chapter's example, and stores laid by hand.
func TestOfSingle(t *testing.T) {
	wide := func(l ...int64) api.Block { return api.Block{Kind: api.Wide, Wide: l} }
	coded := func(kind int, scale int64, codes ...byte) api.Block {
		return api.Block{Kind: kind, Scale: scale, Codes: codes}
	}
	for _, x := range []struct {
		k    api.Keep
		l    []int64
		want []api.Block
	}{
		{api.Keep{Kind: api.ULine, Size: 2}, []int64{0, 5, 10, 10, 7}, []api.Block{coded(api.ULine, 5, 0, 255), coded(api.ULine, 10, 255, 255), coded(api.ULine, 7, 255)}},
		{api.Keep{Kind: api.ULine, Size: 2}, nil, nil},
		{api.Keep{Kind: api.ULine, Size: 2, Small: 5, Out: 3}, nil, nil},
		{api.Keep{Kind: api.ULine, Size: 3}, []int64{0, 5, 10}, []api.Block{coded(api.ULine, 10, 0, 127, 255)}},
		{api.Keep{Kind: api.ULine, Size: 4}, []int64{0, 5, 10}, []api.Block{coded(api.ULine, 10, 0, 127, 255)}},
		{api.Keep{Kind: api.ULine, Size: 1}, []int64{0, 5, 10}, []api.Block{coded(api.ULine, 0, 0), coded(api.ULine, 5, 255), coded(api.ULine, 10, 255)}},
		{api.Keep{Kind: api.Line, Size: 4096}, []int64{255, -255, 0}, []api.Block{coded(api.Line, 255, 255, 0, 127)}},
		{api.Keep{Kind: api.Line, Size: 2, Small: 3}, []int64{255, -255, 0}, []api.Block{coded(api.Line, 255, 255, 0), coded(api.Line, 0, 127)}},
		{api.Keep{Kind: api.Line, Size: 2, Small: 4}, []int64{255, -255, 0}, []api.Block{wide(255, -255), wide(0)}},
		{api.Keep{Kind: api.Line, Size: 2, Small: math.MaxInt}, []int64{255, -255, 0}, []api.Block{wide(255, -255), wide(0)}},
		{api.Keep{Kind: api.Line, Size: 2, Out: 255}, []int64{255, -255, 0}, []api.Block{coded(api.Line, 255, 255, 0), coded(api.Line, 0, 127)}},
		{api.Keep{Kind: api.Line, Size: 2, Out: 254}, []int64{255, -255, 0}, []api.Block{wide(255, -255), coded(api.Line, 0, 127)}},
		{api.Keep{Kind: api.Line, Size: 2, Out: 10}, []int64{10, -10, -11, 3, 3, 11, 4}, []api.Block{coded(api.Line, 10, 255, 0), wide(-11, 3), wide(3, 11), coded(api.Line, 4, 255)}},
		{api.Keep{Kind: api.Tree, Size: 2, Out: math.MaxInt64}, []int64{math.MaxInt64, -math.MaxInt64}, []api.Block{coded(api.Tree, math.MaxInt64, 255, 0)}},
		{api.Keep{Kind: api.UTree, Size: 2, Small: 3, Out: 5}, []int64{6, 0, 5}, []api.Block{wide(6, 0), coded(api.UTree, 5, 255)}},
		{api.Keep{Kind: api.ULine, Size: 2, Small: 4}, []int64{-1, 0, -5}, []api.Block{wide(-1, 0), wide(-5)}},              // short, and so not coded
		{api.Keep{Kind: api.ULine, Size: 2, Out: 4}, []int64{-5, 0, 4}, []api.Block{wide(-5, 0), coded(api.ULine, 4, 255)}}, // too great, and so not coded
	} {
		want := api.Store{Keep: x.k, Long: len(x.l), L: x.want}
		if s := kept(t, x.k, x.l); !same(s, want) {
			t.Errorf("Of(%v, %d): %v", x.k, x.l, s)
		}
		if !tens.Right(want) {
			t.Errorf("Right: no, of %v", want)
		}
	}
}

// P14.1, N2: rows are cut and packed as the Words say.
func TestOf(t *testing.T) {
	eachKept(t, func(k api.Keep, l []int64, s api.Store) {
		if want, e := told(k, l); e != api.OK || !same(s, want) {
			t.Fatalf("Of(%v, %d): %v", k, l, s)
		}
	})
}

// P14.1, N2: what is below 0 is refused where a block of it would be coded, and not signed, and nowhere else.
func TestOfBothSides(t *testing.T) {
	for _, k := range keeps() {
		for _, l := range rows() {
			want, we := told(k, l)
			if s, e := tens.Of(k, l); e != we || !same(s, want) {
				t.Fatalf("Of(%v, %d): %v %d, not %d", k, l, s, e, we)
			}
		}
	}
}

// P14.1, N2: a keep that is not right is told first, then too many numbers, then what a block says.
func TestOfWrong(t *testing.T) {
	right := api.Keep{Kind: api.ULine, Size: 2}
	tooMany := repeated(math.MinInt64, api.MaxRow+1)
	for _, k := range []api.Keep{
		{}, {Kind: api.Wide, Size: 2}, {Kind: -1, Size: 2}, {Kind: 5, Size: 2}, {Kind: api.ULine}, {Kind: api.ULine, Size: -1}, {Kind: api.ULine, Size: math.MinInt},
		{Kind: api.ULine, Size: api.MaxBlock + 1}, {Kind: api.ULine, Size: 2, Small: -1}, {Kind: api.ULine, Size: 2, Out: -1}, {Kind: api.ULine, Size: 2, Out: math.MinInt64},
	} {
		for _, l := range [][]int64{nil, {}, {1}, {1, 2, 3}, {math.MinInt64}, tooMany} {
			if s, e := tens.Of(k, l); !none(s) || e != api.ErrArg {
				t.Errorf("Of(%v) of %d numbers: %v %d", k, len(l), s, e)
			}
		}
	}
	for _, size := range []int{1, 2, api.MaxBlock} {
		right.Size = size
		for _, l := range [][]int64{tooMany, repeated(1, api.MaxRow+1), repeated(-1, api.MaxRow+2), repeated(0, 3*api.MaxRow)} {
			if s, e := tens.Of(right, l); !none(s) || e != api.ErrLarge {
				t.Errorf("Of(%v) of %d numbers: %v %d", right, len(l), s, e)
			}
		}
		if s := kept(t, right, repeated(7, api.MaxRow)); s.Long != api.MaxRow || len(s.L) != api.MaxRow/size {
			t.Errorf("Of(%v) of MaxRow: %d numbers, %d blocks", right, s.Long, len(s.L))
		}
	}
}

// P14.1, N2: a number that a block does not take, in any block, refuses all of the row.
func TestOfBlocksError(t *testing.T) {
	for _, k := range keeps() {
		for _, long := range []int{1, 2, 5, 6, 7, 70} {
			for _, at := range []int{0, 1, long / 2, long - 1} {
				if at >= long {
					continue
				}
				l := repeated(1, long)
				l[at] = math.MinInt64
				if s, e := tens.Of(k, l); !none(s) || e != api.ErrArg {
					t.Fatalf("Of(%v) with the least one at %d of %d: %v %d", k, at, long, s, e)
				}
			}
		}
	}
}

// P14.1, N1: all numbers, in order, of each block as it is loaded.
func TestLoad(t *testing.T) {
	eachKept(t, func(k api.Keep, l []int64, s api.Store) {
		var want []int64
		for _, b := range s.L {
			want = append(want, block.Load(b)...)
		}
		if got := tens.Load(s); !slices.Equal(got, want) {
			t.Fatalf("Load of Of(%v, %d): %d", k, l, got)
		}
	})
	for _, x := range []struct {
		k       api.Keep
		l, want []int64
	}{
		{api.Keep{Kind: api.ULine, Size: 2}, []int64{0, 5, 10, 10, 7}, []int64{0, 5, 10, 10, 7}},
		{api.Keep{Kind: api.Line, Size: 3}, []int64{255, -255, 0, 0}, []int64{255, -255, -1, 0}},
		{api.Keep{Kind: api.Line, Size: 3, Small: 5}, []int64{255, -255, 0, 0}, []int64{255, -255, 0, 0}},
		{api.Keep{Kind: api.Line, Size: 3, Out: 200}, []int64{255, -255, 0, 3, 0}, []int64{255, -255, 0, 3, 0}},
		{api.Keep{Kind: api.ULine, Size: 3}, []int64{2550, 4, 0, 4}, []int64{2550, 0, 0, 4}},
		{api.Keep{Kind: api.Tree, Size: 9}, nil, nil},
	} {
		if got := tens.Load(kept(t, x.k, x.l)); !slices.Equal(got, x.want) {
			t.Errorf("Load of Of(%v, %d): %d, not %d", x.k, x.l, got, x.want)
		}
	}
}

// P14.1, N1: what any Store costs, whatever its keep, its length and its blocks say.
func TestCost(t *testing.T) {
	for _, x := range []struct {
		l    []api.Block
		want int
	}{
		{nil, 0},
		{[]api.Block{}, 0},
		{[]api.Block{{}}, 8},
		{[]api.Block{{Kind: api.Wide}}, 0},
		{[]api.Block{{Kind: api.Wide, Wide: []int64{1, 2, 3}}}, 24},
		{[]api.Block{{Kind: api.Wide, Scale: 9, Codes: []byte{1, 2}, Wide: []int64{1}}}, 8},
		{[]api.Block{{Kind: api.Wide, Codes: []byte{1, 2}}}, 0},
		{[]api.Block{{Kind: api.ULine, Scale: 9, Codes: []byte{255, 2}}}, 10},
		{[]api.Block{{Kind: api.ULine, Scale: 9, Codes: []byte{255, 2}, Wide: []int64{1, 2, 3}}}, 10},
		{[]api.Block{{Kind: api.Tree, Wide: []int64{1, 2, 3}}}, 8},
		{[]api.Block{{Kind: 77, Codes: make([]byte, 5)}}, 13},
		{[]api.Block{{Kind: -1, Wide: make([]int64, 5)}}, 8},
		{[]api.Block{{Kind: math.MinInt, Codes: make([]byte, 5000)}, {Kind: api.Wide, Wide: make([]int64, 5000)}}, 45008},
		{[]api.Block{{Kind: api.Line, Codes: make([]byte, 2)}, {Kind: api.Wide, Wide: make([]int64, 2)}, {Kind: api.UTree, Codes: make([]byte, 1)}}, 35},
	} {
		for _, k := range []api.Keep{{}, {Kind: api.ULine, Size: 2}, {Kind: api.Wide, Size: -1, Small: -1, Out: -1}} {
			for _, long := range []int{0, 1, -1, math.MaxInt} {
				if n := tens.Cost(api.Store{Keep: k, Long: long, L: x.l}); n != x.want {
					t.Errorf("Cost of %v: %d, not %d", x.l, n, x.want)
				}
			}
		}
	}
	if n := tens.Cost(kept(t, api.Keep{Kind: api.Line, Size: 2, Out: 10}, []int64{10, -10, -11, 3, 5})); n != 2+8+2*8+1+8 {
		t.Errorf("Cost of a wide block among three: %d", n)
	}
}

// P14.1, N1: what is not right, a fault at a time.
func TestNotRight(t *testing.T) {
	k := api.Keep{Kind: api.Line, Size: 2, Small: 5, Out: 10}
	l := []int64{1, -10, 11, 2, 0, 3, 4}
	right := func() api.Store { return kept(t, k, l) }
	for name, fault := range map[string]func(s *api.Store){
		"no kind":              func(s *api.Store) { s.Keep.Kind = 5 },
		"wide as a kind":       func(s *api.Store) { s.Keep.Kind = api.Wide },
		"another kind":         func(s *api.Store) { s.Keep.Kind = api.Tree },
		"size 0":               func(s *api.Store) { s.Keep.Size = 0 },
		"size below 0":         func(s *api.Store) { s.Keep.Size = -2 },
		"another size":         func(s *api.Store) { s.Keep.Size = 3 },
		"too great a size":     func(s *api.Store) { s.Keep.Size = api.MaxBlock + 1 },
		"small below 0":        func(s *api.Store) { s.Keep.Small = -1 },
		"short":                func(s *api.Store) { s.Keep.Small = 8 },
		"out below 0":          func(s *api.Store) { s.Keep.Out = -1 },
		"no out":               func(s *api.Store) { s.Keep.Out = 0 },
		"scale above out":      func(s *api.Store) { s.Keep.Out = 9 },
		"wide one at most out": func(s *api.Store) { s.Keep.Out = 11 },
		"long 0":               func(s *api.Store) { s.Long = 0 },
		"long below 0":         func(s *api.Store) { s.Long = -7 },
		"long less":            func(s *api.Store) { s.Long = 6 },
		"long more":            func(s *api.Store) { s.Long = 8 },
		"long a block more":    func(s *api.Store) { s.Long = 9 },
		"long above all":       func(s *api.Store) { s.Long = math.MaxInt },
		"no blocks":            func(s *api.Store) { s.L = nil },
		"a block less":         func(s *api.Store) { s.L = s.L[:3] },
		"a block more":         func(s *api.Store) { s.L = append(s.L, s.L[0]) },
		"an empty block more":  func(s *api.Store) { s.L = append(s.L, api.Block{Kind: api.Line}) },
		"a last block as long": func(s *api.Store) { s.L[3] = s.L[0] },
		"a first one shorter":  func(s *api.Store) { s.L[0] = packed(t, api.Line, 1) },
		"a first one longer":   func(s *api.Store) { s.L[0] = packed(t, api.Line, 1, 2, 3) },
		"a wide one shorter":   func(s *api.Store) { s.L[1] = packed(t, api.Wide, 11) },
		"no codes":             func(s *api.Store) { s.L[0].Codes = nil },
		"a block not right":    func(s *api.Store) { s.L[0].Codes = []byte{1, 2} },
		"a scale below 0":      func(s *api.Store) { s.L[0].Scale = -10 },
		"both lists":           func(s *api.Store) { s.L[0].Codes, s.L[0].Wide = []byte{255}, []int64{1} },
		"a wide scale":         func(s *api.Store) { s.L[1].Scale = 1 },
		"a wide least one":     func(s *api.Store) { s.L[1].Wide[0] = math.MinInt64 },
		"a block of no kind":   func(s *api.Store) { s.L[0].Kind = 5 },
		"a block of a kind":    func(s *api.Store) { s.L[0] = packed(t, api.Tree, 1, -10) },
		"a last one of a kind": func(s *api.Store) { s.L[3] = packed(t, api.ULine, 4) },
		"wide, not above out":  func(s *api.Store) { s.L[0] = packed(t, api.Wide, 1, -10) },
		"all wide": func(s *api.Store) {
			s.L[0], s.L[2], s.L[3] = packed(t, api.Wide, 1, -10), packed(t, api.Wide, 0, 3), packed(t, api.Wide, 4)
		},
		"coded, above out":     func(s *api.Store) { s.L[1] = packed(t, api.Line, 11, 2) },
		"coded, far above out": func(s *api.Store) { s.L[1] = packed(t, api.Line, -math.MaxInt64, 2) },
		"short, one not wide": func(s *api.Store) {
			s.Keep.Small, s.L[0], s.L[2] = 99, packed(t, api.Wide, 1, -10), packed(t, api.Wide, 0, 3)
		},
		"no out, one wide":      func(s *api.Store) { s.Keep.Out, s.L[1] = 0, packed(t, api.Wide, math.MaxInt64, 2) },
		"out, last one greater": func(s *api.Store) { s.L[3] = packed(t, api.Line, -11) },
	} {
		s := right()
		if !tens.Right(s) {
			t.Fatalf("Right: no, of %v", s)
		}
		if fault(&s); tens.Right(s) {
			t.Errorf("Right: yes, of %s", name)
		}
	}
	if tens.Right(api.Store{}) {
		t.Error("Right: yes, of the empty Store")
	}
}

// P14.1, N1: a row of MaxRow numbers may be right, one of one more is not.
func TestRightLong(t *testing.T) {
	for _, k := range []api.Keep{{Kind: api.UTree, Size: 1}, {Kind: api.UTree, Size: 100}, {Kind: api.UTree, Size: api.MaxBlock}, {Kind: api.UTree, Size: 64, Small: api.MaxRow + 1}, {Kind: api.UTree, Size: 64, Small: math.MaxInt}, {Kind: api.UTree, Size: 64, Out: 1}} {
		s := kept(t, k, repeated(3, api.MaxRow))
		if !tens.Right(s) {
			t.Errorf("Right: no, of MaxRow numbers by %v", k)
		}
		if s, e := told(k, repeated(3, api.MaxRow+1)); e != api.OK || tens.Right(s) {
			t.Errorf("Right: yes, of more than MaxRow numbers by %v", k)
		}
	}
}

// P14.1, N1: what is right, though no row was kept so.
func TestRightUnlike(t *testing.T) {
	for i, s := range []api.Store{
		{Keep: api.Keep{Kind: api.ULine, Size: 1}},
		{Keep: api.Keep{Kind: api.Tree, Size: api.MaxBlock, Small: math.MaxInt, Out: math.MaxInt64}, L: []api.Block{}},
		{Keep: api.Keep{Kind: api.ULine, Size: 3, Out: 9}, Long: 2, L: []api.Block{{Kind: api.ULine, Scale: 9, Codes: []byte{255, 1}}}},
		{Keep: api.Keep{Kind: api.Line, Size: 3, Small: 2}, Long: 2, L: []api.Block{{Kind: api.Line, Scale: 2, Codes: []byte{0, 126}, Wide: []int64{}}}},
		{Keep: api.Keep{Kind: api.ULine, Size: 2, Small: 9}, Long: 3, L: []api.Block{{Kind: api.Wide, Wide: []int64{-1, -2}, Codes: []byte{}}, {Kind: api.Wide, Wide: []int64{-3}}}},
	} {
		if !tens.Right(s) {
			t.Errorf("Right: no, of store %d", i)
		}
	}
}

// P14.1, N1: the same are Stores of which all is.
func TestSame(t *testing.T) {
	k := api.Keep{Kind: api.Line, Size: 2}
	zero, one := packed(t, api.Line, 0), packed(t, api.Line, 1)
	all := []api.Store{
		{},
		{Keep: api.Keep{Kind: 1}},
		{Keep: api.Keep{Size: 1}},
		{Keep: api.Keep{Small: 1}},
		{Keep: api.Keep{Out: 1}},
		{Keep: k},
		{Long: 1},
		{Long: -1},
		{Keep: k, Long: 1},
		{L: []api.Block{{}}},
		{L: []api.Block{{}, {}}},
		{L: []api.Block{zero}},
		{L: []api.Block{one}},
		{L: []api.Block{zero, one}},
		{L: []api.Block{one, zero}},
		{L: []api.Block{one, one}},
		{Keep: k, L: []api.Block{one, one}},
		{Keep: k, Long: 2, L: []api.Block{one, one}},
		{Keep: k, Long: 2, L: []api.Block{one, one, one}},
		{L: []api.Block{{Kind: 77}}},
		{L: []api.Block{{Scale: 1}}},
		{L: []api.Block{{Kind: api.Wide, Wide: []int64{0}}}},
		{L: []api.Block{{Kind: api.Wide, Wide: []int64{1}}}},
		{L: []api.Block{{Codes: []byte{1}}}},
		{L: []api.Block{{Codes: []byte{2}}}},
		{L: []api.Block{one, {Codes: []byte{2}}}},
		{L: []api.Block{one, {Codes: []byte{3}}}},
	}
	for i, a := range all {
		for j, b := range all {
			b.L = append(make([]api.Block, 0, 9), b.L...)
			for n := range b.L {
				b.L[n].Codes = append(make([]byte, 0, 9), b.L[n].Codes...)
				b.L[n].Wide = append(make([]int64, 0, 9), b.L[n].Wide...)
			}
			if got := tens.Same(a, b); got != (i == j) {
				t.Errorf("Same of stores %d and %d: %t", i, j, got)
			}
		}
	}
}

// P14.2: what is kept is right, and has as many numbers, each as its block's is.
func TestKeptIsRight(t *testing.T) {
	eachKept(t, func(k api.Keep, l []int64, s api.Store) {
		loaded := tens.Load(s)
		if !tens.Right(s) || s.Keep != k || s.Long != len(l) || len(loaded) != len(l) {
			t.Fatalf("Of(%v, %d): %v", k, l, s)
		}
		place := 0
		for part := range slices.Chunk(l, k.Size) {
			b := s.L[place/k.Size]
			if b.Kind == api.Wide && !slices.Equal(block.Load(b), part) {
				t.Fatalf("Of(%v, %d): %v, not %d", k, l, b, part)
			}
			if b.Kind != api.Wide && !block.Same(b, packed(t, k.Kind, part...)) {
				t.Fatalf("Of(%v, %d): %v, not of %d", k, l, b, part)
			}
			if !slices.Equal(loaded[place:place+len(part)], block.Load(b)) {
				t.Fatalf("Load of Of(%v, %d): %d", k, l, loaded)
			}
			place += len(part)
		}
	})
}

// P14.3: where no block is wide, the cost is at most as many as there are, and 8 for each Size of them, or part.
func TestCostWhereNoneIsWide(t *testing.T) {
	coded := 0
	eachKept(t, func(k api.Keep, l []int64, s api.Store) {
		for _, b := range s.L {
			if b.Kind == api.Wide {
				return
			}
		}
		coded++
		parts := len(l) / k.Size
		if parts*k.Size < len(l) {
			parts++
		}
		if n := tens.Cost(s); n > len(l)+8*parts {
			t.Fatalf("Cost of Of(%v, %d): %d", k, l, n)
		}
	})
	if coded < 1000 {
		t.Errorf("only %d stores without a wide block", coded)
	}
}

// P14.4: a block hangs on its own numbers, and on how many there are in all, alone.
func TestBlocksAreApart(t *testing.T) {
	for _, k := range keeps() {
		for _, l := range may(k.Kind, rows()) {
			if len(l) <= k.Size {
				continue // there is no other block
			}
			for place, b := range kept(t, k, l).L {
				from := place * k.Size
				to := min(from+k.Size, len(l))
				for _, other := range []int64{0, math.MaxInt64} {
					changed := repeated(other, len(l))
					copy(changed[from:to], l[from:to])
					if again := kept(t, k, changed); !block.Same(again.L[place], b) {
						t.Fatalf("Of(%v, %d): block %d is %v, with others %v", k, l, place, b, again.L[place])
					}
				}
			}
		}
	}
}

// P14.4: the same numbers are the same block, wherever they stand in rows that are as long.
func TestBlocksHaveNoPlace(t *testing.T) {
	for _, k := range keeps() {
		for _, l := range may(k.Kind, rows()) {
			if len(l) < k.Size {
				continue
			}
			part := l[:k.Size]
			s := kept(t, k, slices.Concat(part, repeated(0, k.Size), part))
			if len(s.L) != 3 || !block.Same(s.L[0], s.L[2]) {
				t.Fatalf("Of(%v) of %d on both sides of noughts: %v", k, part, s)
			}
		}
	}
}

// P14.1 with R4: nothing that is handed in is changed, and nobody sees what another one changes later.
func TestApart(t *testing.T) {
	for _, k := range []api.Keep{{Kind: api.Line, Size: 2}, {Kind: api.ULine, Size: 3, Small: 9}, {Kind: api.Tree, Size: 2, Out: 6}, {Kind: api.UTree, Size: 64, Out: 1}} {
		room := []int64{3, 0, 9, 5, 7, 11, 13}
		s := kept(t, k, room[:5])
		again := kept(t, k, []int64{3, 0, 9, 5, 7})
		if !slices.Equal(room, []int64{3, 0, 9, 5, 7, 11, 13}) {
			t.Errorf("Of(%v) changed %d", k, room)
		}
		for i := range room {
			room[i] = 99
		}
		if !same(s, again) {
			t.Errorf("Of(%v): it hangs on what was handed in", k)
		}
		loaded := tens.Load(s)
		first := slices.Clone(loaded)
		for i := range loaded {
			loaded[i] = -77
		}
		_ = append(loaded, 1, 2, 3)
		if !same(s, again) || !slices.Equal(tens.Load(s), first) {
			t.Errorf("Load by %v: the Store hangs on what was loaded", k)
		}
		for i := range s.L { // a block's room is its own
			_ = append(s.L[i].Codes, 1, 2, 3)
			_ = append(s.L[i].Wide, 1, 2, 3)
		}
		if !same(s, again) {
			t.Errorf("Of(%v): blocks share their room", k)
		}
	}
}

// P14.1 with R1: Stores that are not right end without a panic.
func TestWrongStores(t *testing.T) {
	wrong := []api.Block{{}, {Kind: 77, Codes: []byte{9}}, {Kind: api.Line, Scale: math.MinInt64, Codes: []byte{0, 255}}, {Kind: api.Wide, Scale: -1, Codes: []byte{1}, Wide: []int64{math.MinInt64}}}
	for _, k := range []api.Keep{{}, {Kind: api.Line, Size: 2}, {Kind: api.Line, Size: 2, Out: math.MinInt64}, {Kind: -1, Size: math.MinInt, Small: math.MinInt, Out: -1}, {Kind: api.Wide, Size: math.MaxInt, Small: math.MaxInt, Out: math.MaxInt64}} {
		for _, long := range []int{0, 1, 3, 4, 8, -1, math.MinInt, math.MaxInt} {
			for n := range len(wrong) + 1 {
				s := api.Store{Keep: k, Long: long, L: wrong[:n]}
				if tens.Right(s) && (n > 0 || long != 0) {
					t.Errorf("Right: yes, of %v", s)
				}
				tens.Load(s)
				tens.Cost(s)
				if !tens.Same(s, s) {
					t.Errorf("Same: no, of %v and itself", s)
				}
			}
		}
	}
}
