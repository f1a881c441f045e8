package code_test

import (
	"math"
	"math/big"
	"slices"
	"testing"

	"ratchet/api"
	"ratchet/book"
	"ratchet/code"
)

var kinds = []int{api.Tree, api.UTree, api.Line, api.ULine}

var noKinds = []int{api.Wide, -1, -2, -4, 5, 6, 8, 255, 256, -256, 1 << 32, 1<<32 + 1, math.MinInt, math.MaxInt}

type share struct{ num, den int64 }

func (s share) rat() *big.Rat {
	return big.NewRat(s.num, s.den)
}

func numbers(t *testing.T, kind int) []int64 {
	t.Helper()
	l, e := book.Book(kind)
	if e != api.OK || len(l) != 256 {
		t.Fatalf("Book(%d): %d", kind, e)
	}
	return l
}

func near(t *testing.T, kind int, s share) byte {
	t.Helper()
	c, e := code.Near(kind, s.num, s.den)
	if e != api.OK {
		t.Fatalf("Near(%d, %d, %d): %d", kind, s.num, s.den, e)
	}
	return c
}

// away is how far a share is from a numerator of the kind, in parts of one, of which there are as many as both denominators' product.
func away(kind int, n int64, s share) *big.Int {
	here := new(big.Int).Mul(big.NewInt(s.num), big.NewInt(book.Den(kind)))
	there := new(big.Int).Mul(big.NewInt(n), big.NewInt(s.den))
	return here.Abs(here.Sub(here, there))
}

// nearest goes through the whole codebook, place by place, for the least that is away.
func nearest(kind int, l []int64, s share) byte {
	best, least := 0, away(kind, l[0], s)
	for i, n := range l {
		if d := away(kind, n, s); d.Cmp(least) < 0 {
			best, least = i, d
		}
	}
	return byte(best)
}

// middles are the shares as near to two numbers side by side, those closely beside them first and last, at small and at great denominators.
func middles(kind int, l []int64, place int) []share {
	var all []share
	sum, den := l[place]+l[place+1], 2*book.Den(kind)
	for _, k := range []int64{1, 2, 3, 1000, math.MaxInt64/den - 1, math.MaxInt64 / den} {
		all = append(all, share{sum*k - 1, den * k}, share{sum * k, den * k}, share{sum*k + 1, den * k})
	}
	return all
}

// edges are shares of a signed kind at the ends, with denominators at the edges of 64 bits and of what is doubled or multiplied.
func edges() []share {
	var all []share
	for _, den := range []int64{1, 2, 3, 4, 5, 255, 256, 509, 510, 511, 1 << 31, 1 << 32, 2560000000, 5120000000, 1 << 53, 1<<53 + 1, 1<<62 - 1, 1 << 62, 1<<62 + 1, math.MaxInt64 - 1, math.MaxInt64} {
		for _, num := range []int64{0, 1, 2, den / 510, den / 255, den / 3, den / 2, den/2 + 1, den - den/510, den - 2, den - 1, den} {
			if 0 <= num && num <= den {
				all = append(all, share{num, den}, share{-num, den})
			}
		}
	}
	return all
}

// small are all shares of small denominators.
func small() []share {
	var all []share
	for den := int64(1); den <= 40; den++ {
		for num := -den; num <= den; num++ {
			all = append(all, share{num, den})
		}
	}
	return all
}

// mixed are shares of mixed bits, the same in every run, of all sizes.
func mixed() []share {
	var all []share
	x := uint64(88172645463325252)
	next := func() int64 {
		x ^= x << 13
		x ^= x >> 7
		x ^= x << 17
		return int64(x >> 1)
	}
	for i := range 300 {
		den := next()>>(i%60) + 1
		num := next() >> (i / 5 % 30) % (den + 1)
		all = append(all, share{num, den}, share{-num, den})
	}
	return all
}

// shares are all of these that are shares of the kind.
func shares(t *testing.T, kind int) []share {
	t.Helper()
	all := slices.Concat(edges(), small(), mixed())
	l := numbers(t, kind)
	for i := range len(l) - 1 {
		all = append(all, middles(kind, l, i)...)
	}
	return slices.DeleteFunc(all, func(s share) bool {
		return !book.Signed(kind) && s.num < 0
	})
}

// P10.1, J1: the chapter's example, and codes reckoned by hand.
func TestNearOfSingleShares(t *testing.T) {
	for _, x := range []struct {
		kind     int
		num, den int64
		want     byte
	}{
		{api.ULine, 1, 2, 127}, // 127.5
		{api.ULine, 0, 1, 0},
		{api.ULine, 1, 1, 255},
		{api.ULine, 1, 510, 0}, // 0.5
		{api.ULine, 2, 510, 1},
		{api.ULine, 3, 510, 1}, // 1.5
		{api.ULine, 509, 510, 254},
		{api.ULine, 5, 10, 127},
		{api.ULine, math.MaxInt64, math.MaxInt64, 255},
		{api.Line, 0, 1, 127}, // between -1 and 1
		{api.Line, 0, math.MaxInt64, 127},
		{api.Line, 1, math.MaxInt64, 128},
		{api.Line, -1, math.MaxInt64, 127},
		{api.Line, -1, 1, 0},
		{api.Line, 1, 1, 255},
		{api.Line, -254, 255, 0}, // between -255 and -253
		{api.Line, 254, 255, 254},
		{api.Line, 2, 255, 128}, // between 1 and 3
		{api.Line, -2, 255, 126},
		{api.Line, -math.MaxInt64, math.MaxInt64, 0},
		{api.Tree, 0, 1, 127},
		{api.Tree, 1, 1, 255},
		{api.Tree, -1, 1, 0},
		{api.Tree, 704, 2560000000, 127}, // between 0 and 1408
		{api.Tree, 705, 2560000000, 128},
		{api.Tree, -704, 2560000000, 126},
		{api.Tree, -703, 2560000000, 127},
		{api.Tree, 2551000000, 2560000000, 254}, // between 2542000000 and 2560000000
		{api.Tree, 2551000001, 2560000000, 255},
		{api.UTree, 0, 1, 0},
		{api.UTree, 1, 1, 255},
		{api.UTree, 416, 2560000000, 0}, // between 0 and 832
		{api.UTree, 417, 2560000000, 1},
		{api.UTree, 2555500000, 2560000000, 254}, // between 2551000000 and 2560000000
		{api.UTree, 2555500001, 2560000000, 255},
	} {
		if c := near(t, x.kind, share{x.num, x.den}); c != x.want {
			t.Errorf("Near(%d, %d, %d): %d, not %d", x.kind, x.num, x.den, c, x.want)
		}
	}
}

// P10.1, J1; P10.2: no code's number is nearer, of two as near it is the lower place, and it is at most half the gap away.
func TestNearest(t *testing.T) {
	for _, kind := range kinds {
		l := numbers(t, kind)
		for _, s := range shares(t, kind) {
			c := near(t, kind, s)
			if want := nearest(kind, l, s); c != want {
				t.Fatalf("Near(%d, %d, %d): %d, not %d", kind, s.num, s.den, c, want)
			}
			gap := new(big.Int).Mul(big.NewInt(book.Gap(kind)), big.NewInt(s.den))
			if d := away(kind, l[c], s); d.Lsh(d, 1).Cmp(gap) > 0 {
				t.Fatalf("Near(%d, %d, %d): %d is more than half the gap away", kind, s.num, s.den, c)
			}
		}
	}
}

// P10.1, J1: in the middle it is the lower place, and only there and below.
func TestNearAtMiddles(t *testing.T) {
	for _, kind := range kinds {
		l := numbers(t, kind)
		for i := range len(l) - 1 {
			for j, s := range middles(kind, l, i) {
				want := byte(i)
				if j%3 == 2 { // closely above it
					want++
				}
				if c := near(t, kind, s); c != want {
					t.Fatalf("Near(%d, %d, %d): %d, not %d", kind, s.num, s.den, c, want)
				}
			}
		}
	}
}

// P10.1, J1: what is no share.
func TestNoShare(t *testing.T) {
	for _, s := range []share{
		{0, 0}, {1, 0}, {-1, 0}, {math.MaxInt64, 0}, {math.MinInt64, 0},
		{0, -1}, {1, -1}, {-1, -1}, {-2, -1}, {-255, -256}, {0, math.MinInt64}, {1, math.MinInt64}, {math.MinInt64, math.MinInt64}, {-1, -math.MaxInt64},
		{2, 1}, {256, 255}, {math.MaxInt64, 1}, {math.MaxInt64, math.MaxInt64 - 1}, {2560000001, 2560000000},
		{-2, 1}, {-256, 255}, {-math.MaxInt64, math.MaxInt64 - 1}, {math.MinInt64, math.MaxInt64}, {math.MinInt64, 1}, {-2560000001, 2560000000},
	} {
		for _, kind := range kinds {
			if c, e := code.Near(kind, s.num, s.den); c != 0 || e != api.ErrArg {
				t.Errorf("Near(%d, %d, %d): %d %d", kind, s.num, s.den, c, e)
			}
		}
	}
}

// P10.1, J1: below nought there are shares of what is signed alone.
func TestSharesBelowNought(t *testing.T) {
	for _, s := range []share{{-1, 1}, {-1, 2}, {-1, 255}, {-1, math.MaxInt64}, {-math.MaxInt64, math.MaxInt64}} {
		for _, kind := range []int{api.UTree, api.ULine} {
			if c, e := code.Near(kind, s.num, s.den); c != 0 || e != api.ErrArg {
				t.Errorf("Near(%d, %d, %d): %d %d", kind, s.num, s.den, c, e)
			}
		}
		for _, kind := range []int{api.Tree, api.Line} {
			if c := near(t, kind, s); c > 127 {
				t.Errorf("Near(%d, %d, %d): %d", kind, s.num, s.den, c)
			}
		}
	}
}

// P10.1, J1: of no kind there is nothing; Wide is none.
func TestNoKind(t *testing.T) {
	for _, kind := range noKinds {
		for _, s := range []share{{0, 1}, {1, 1}, {1, 2}, {-1, 1}, {0, 0}, {2, 1}} {
			if c, e := code.Near(kind, s.num, s.den); c != 0 || e != api.ErrArg {
				t.Errorf("Near(%d, %d, %d): %d %d", kind, s.num, s.den, c, e)
			}
		}
		for _, c := range []byte{0, 1, 127, 255} {
			if n, e := code.Num(kind, c); n != 0 || e != api.ErrArg {
				t.Errorf("Num(%d, %d): %d %d", kind, c, n, e)
			}
		}
	}
}

// P10.1, J1: what every code stands for.
func TestNum(t *testing.T) {
	for _, kind := range kinds {
		for i, want := range numbers(t, kind) {
			if n, e := code.Num(kind, byte(i)); n != want || e != api.OK {
				t.Errorf("Num(%d, %d): %d %d, not %d", kind, i, n, e, want)
			}
		}
	}
	for _, x := range []struct {
		kind int
		c    byte
		want int64
	}{
		{api.Tree, 0, -2542000000}, {api.Tree, 127, 0}, {api.Tree, 128, 1408}, {api.Tree, 255, 2560000000},
		{api.UTree, 0, 0}, {api.UTree, 1, 832}, {api.UTree, 255, 2560000000},
		{api.Line, 0, -255}, {api.Line, 127, -1}, {api.Line, 255, 255},
		{api.ULine, 0, 0}, {api.ULine, 127, 127}, {api.ULine, 255, 255},
	} {
		if n, e := code.Num(x.kind, x.c); n != x.want || e != api.OK {
			t.Errorf("Num(%d, %d): %d %d, not %d", x.kind, x.c, n, e, x.want)
		}
	}
}

// P10.3: a greater share has no lesser code, and one that is as great has the same.
func TestOrder(t *testing.T) {
	for _, kind := range kinds {
		all := shares(t, kind)
		slices.SortFunc(all, func(a, b share) int {
			return a.rat().Cmp(b.rat())
		})
		for i := 1; i < len(all); i++ {
			low, high := all[i-1], all[i]
			c, d := near(t, kind, low), near(t, kind, high)
			if c > d || c != d && low.rat().Cmp(high.rat()) == 0 {
				t.Fatalf("Near(%d) of %d and %d: %d and %d", kind, low, high, c, d)
			}
		}
	}
}

// P10.4: a code's own number, as a share, has that code, in whichever parts it is told.
func TestBack(t *testing.T) {
	for _, kind := range kinds {
		den := book.Den(kind)
		for i := range 256 {
			n, e := code.Num(kind, byte(i))
			if e != api.OK {
				t.Fatalf("Num(%d, %d): %d", kind, i, e)
			}
			for _, k := range []int64{1, 2, 7, math.MaxInt64 / den} {
				if c := near(t, kind, share{n * k, den * k}); int(c) != i {
					t.Errorf("Near(%d, %d, %d): %d, not %d", kind, n*k, den*k, c, i)
				}
			}
		}
	}
}
