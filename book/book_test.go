package book_test

import (
	"math"
	"math/big"
	"slices"
	"testing"

	"ratchet/api"
	"ratchet/book"
)

var kinds = []int{api.Tree, api.UTree, api.Line, api.ULine}

var noKinds = []int{api.Wide, -1, -2, -4, 5, 6, 8, 255, 256, -256, 1 << 32, 1<<32 + 1, math.MinInt, math.MaxInt}

// numerators makes a codebook anew from the chapter's Words: every number as a rational, put in order afterwards.
func numerators(t *testing.T, kind int) []int64 {
	t.Helper()
	var all []*big.Rat
	both := func(r *big.Rat) {
		all = append(all, r)
		if kind == api.Tree {
			all = append(all, new(big.Rat).Neg(r))
		}
	}
	switch kind {
	case api.Tree, api.UTree:
		for i := range 7 {
			n := int64(math.Pow(2, float64(i)))
			if kind == api.UTree {
				n = int64(math.Pow(2, float64(i+1)))
			}
			for j := range n {
				r := big.NewRat((2*n+9*(2*j+1))*128, n)
				both(r.Mul(r, big.NewRat(int64(math.Pow(10, float64(i))), 1)))
			}
		}
		all = append(all, big.NewRat(0, 1), big.NewRat(2560000000, 1))
	case api.Line:
		for c := range int64(256) {
			all = append(all, big.NewRat(2*c-255, 1))
		}
	case api.ULine:
		for c := range int64(256) {
			all = append(all, big.NewRat(c, 1))
		}
	}
	slices.SortFunc(all, (*big.Rat).Cmp)
	var l []int64
	for _, r := range all {
		if !r.IsInt() {
			t.Fatalf("kind %d: %s is not whole", kind, r)
		}
		l = append(l, r.Num().Int64())
	}
	return l
}

func numbers(t *testing.T, kind int) []int64 {
	t.Helper()
	l, e := book.Book(kind)
	if e != api.OK {
		t.Fatalf("Book(%d): %d", kind, e)
	}
	return l
}

// P9.1, I1: all numerators, as the chapter's Words make them.
func TestBookIsAsSaid(t *testing.T) {
	for _, kind := range kinds {
		if l, want := numbers(t, kind), numerators(t, kind); !slices.Equal(l, want) {
			t.Errorf("Book(%d): %d, not %d", kind, l, want)
		}
	}
}

// P9.1, I1: single numbers, reckoned by hand.
func TestBookHasSingleNumbers(t *testing.T) {
	for _, c := range []struct {
		kind, place int
		want        int64
	}{
		{api.Tree, 0, -2542000000}, // n 64, j 63: (128 + 9*127) * 2 * 10^6
		{api.Tree, 1, -2506000000},
		{api.Tree, 63, -274000000}, // n 64, j 0: (128 + 9) * 2 * 10^6
		{api.Tree, 64, -252400000}, // n 32, j 31: (64 + 9*63) * 4 * 10^5
		{api.Tree, 126, -1408},
		{api.Tree, 127, 0},
		{api.Tree, 128, 1408}, // n 1, j 0: (2 + 9) * 128
		{api.Tree, 129, 8320}, // n 2, j 0: (4 + 9) * 64 * 10
		{api.Tree, 130, 19840},
		{api.Tree, 131, 54400}, // n 4, j 0: (8 + 9) * 32 * 100
		{api.Tree, 191, 274000000},
		{api.Tree, 254, 2542000000},
		{api.Tree, 255, 2560000000},
		{api.UTree, 0, 0},
		{api.UTree, 1, 832},  // n 2, j 0: (4 + 9) * 64
		{api.UTree, 2, 1984}, // n 2, j 1: (4 + 27) * 64
		{api.UTree, 3, 5440}, // n 4, j 0: (8 + 9) * 32 * 10
		{api.UTree, 126, 254200000},
		{api.UTree, 127, 265000000}, // n 128, j 0: (256 + 9) * 10^6
		{api.UTree, 254, 2551000000},
		{api.UTree, 255, 2560000000},
		{api.Line, 0, -255},
		{api.Line, 127, -1},
		{api.Line, 128, 1},
		{api.Line, 255, 255},
		{api.ULine, 0, 0},
		{api.ULine, 1, 1},
		{api.ULine, 128, 128},
		{api.ULine, 255, 255},
	} {
		if got := numbers(t, c.kind)[c.place]; got != c.want {
			t.Errorf("Book(%d) has %d at %d, not %d", c.kind, got, c.place, c.want)
		}
	}
}

// P9.1, I1: denominators, gaps and sides.
func TestDenGapAndSigned(t *testing.T) {
	for _, c := range []struct {
		kind     int
		den, gap int64
		signed   bool
	}{
		{api.Tree, 2560000000, 36000000, true},
		{api.UTree, 2560000000, 18000000, false},
		{api.Line, 255, 2, true},
		{api.ULine, 255, 1, false},
	} {
		if got := book.Den(c.kind); got != c.den {
			t.Errorf("Den(%d): %d, not %d", c.kind, got, c.den)
		}
		if got := book.Gap(c.kind); got != c.gap {
			t.Errorf("Gap(%d): %d, not %d", c.kind, got, c.gap)
		}
		if got := book.Signed(c.kind); got != c.signed {
			t.Errorf("Signed(%d): %t", c.kind, got)
		}
	}
}

// P9.1, I1: no two numbers side by side are farther apart than the gap, and two are as far.
func TestGapIsTheGreatest(t *testing.T) {
	for _, kind := range kinds {
		var all []int64
		l := numbers(t, kind)
		for i, n := range l[1:] {
			all = append(all, n-l[i])
		}
		if got, want := book.Gap(kind), slices.Max(all); got != want {
			t.Errorf("Gap(%d): %d, not %d", kind, got, want)
		}
	}
}

// P9.1, I1: of no kind there is nothing; Wide is none.
func TestNoKind(t *testing.T) {
	for _, kind := range noKinds {
		if l, e := book.Book(kind); len(l) != 0 || e != api.ErrArg {
			t.Errorf("Book(%d): %d %d", kind, l, e)
		}
		if den, gap := book.Den(kind), book.Gap(kind); den != 0 || gap != 0 {
			t.Errorf("Den and Gap of %d: %d %d", kind, den, gap)
		}
		if book.Signed(kind) {
			t.Errorf("Signed(%d)", kind)
		}
	}
}

// P9.2: 256 numbers, rising, the last one the denominator; with 0, but of Line; of what is not signed the first one.
func TestRising(t *testing.T) {
	for _, kind := range kinds {
		l := numbers(t, kind)
		if len(l) != 256 {
			t.Fatalf("Book(%d) has %d", kind, len(l))
		}
		for i := 1; i < len(l); i++ {
			if l[i-1] >= l[i] {
				t.Errorf("Book(%d) does not rise: %d, %d at %d", kind, l[i-1], l[i], i)
			}
		}
		if l[255] != book.Den(kind) {
			t.Errorf("Book(%d) ends with %d", kind, l[255])
		}
		if slices.Contains(l, 0) != (kind != api.Line) {
			t.Errorf("Book(%d) and 0: %d", kind, l)
		}
		if !book.Signed(kind) && l[0] != 0 {
			t.Errorf("Book(%d) begins with %d", kind, l[0])
		}
	}
}

// P9.3: from the least share on, the first number is at most half a gap away.
func TestEnds(t *testing.T) {
	for _, kind := range kinds {
		least := int64(0)
		if book.Signed(kind) {
			least = -book.Den(kind)
		}
		if away := numbers(t, kind)[0] - least; away < 0 || 2*away > book.Gap(kind) {
			t.Errorf("Book(%d) begins %d away, the gap is %d", kind, away, book.Gap(kind))
		}
	}
}

// P9.4: of Tree and Line each one's other way round is there, but of the last one of Tree.
func TestSides(t *testing.T) {
	for _, kind := range []int{api.Tree, api.Line} {
		l := numbers(t, kind)
		for i, n := range l {
			want := kind == api.Line || i < 255
			if slices.Contains(l, -n) != want {
				t.Errorf("Book(%d): the other way round of %d, at %d", kind, n, i)
			}
		}
	}
}

// R4, R5: what is told is new memory, and hangs on the kind alone.
func TestBookIsNew(t *testing.T) {
	for _, kind := range kinds {
		l := numbers(t, kind)
		all := l[:cap(l)]
		for i := range all {
			all[i] = 77
		}
		if again, want := numbers(t, kind), numerators(t, kind); !slices.Equal(again, want) {
			t.Errorf("Book(%d) after its answer was written over: %d", kind, again)
		}
		if l[0] != 77 || l[255] != 77 {
			t.Errorf("Book(%d): its first answer is written again", kind)
		}
	}
}
