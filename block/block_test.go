package block_test

import (
	"bytes"
	"math"
	"math/big"
	"slices"
	"testing"

	"ratchet/api"
	"ratchet/block"
	"ratchet/book"
	"ratchet/code"
)

var codebooks = []int{api.Tree, api.UTree, api.Line, api.ULine}

var kinds = []int{api.Tree, api.UTree, api.Line, api.ULine, api.Wide}

var noKinds = []int{-1, -2, -4, 5, 6, 8, 255, 256, -256, 1 << 32, 1<<32 + 4, math.MinInt, math.MaxInt}

func packed(t *testing.T, kind int, l []int64) api.Block {
	t.Helper()
	b, e := block.Pack(kind, l)
	if e != api.OK {
		t.Fatalf("Pack(%d, %d): %d", kind, l, e)
	}
	return b
}

func none(b api.Block) bool {
	return b.Kind == 0 && b.Scale == 0 && b.Codes == nil && b.Wide == nil
}

func codeOf(t *testing.T, kind int, num, den int64) byte {
	t.Helper()
	c, e := code.Near(kind, num, den)
	if e != api.OK {
		t.Fatalf("Near(%d, %d, %d): %d", kind, num, den, e)
	}
	return c
}

// size is how far n is from nought; there it is not gone round.
func size(n int64) *big.Int {
	return new(big.Int).Abs(big.NewInt(n))
}

// greatest goes by the greatest one and the least one.
func greatest(l []int64) int64 {
	if len(l) == 0 {
		return 0
	}
	high, low := slices.Max(l), slices.Min(l)
	if high >= 0 && size(high).Cmp(size(low)) >= 0 {
		return high
	}
	return -low
}

// times is scale times n by d, to the nearest, of two as near the even one.
func times(scale, n, d int64) int64 {
	x := new(big.Int).Mul(big.NewInt(scale), big.NewInt(n))
	below, rest := new(big.Int).DivMod(x, big.NewInt(d), new(big.Int))
	rest.Lsh(rest, 1)
	c := rest.Cmp(big.NewInt(d))
	if c > 0 || c == 0 && below.Bit(0) == 1 {
		below.Add(below, big.NewInt(1))
	}
	return below.Int64()
}

// repeated are so many of one number.
func repeated(n int64, long int) []int64 {
	return slices.Repeat([]int64{n}, long)
}

// mixer tells numbers of mixed bits, the same in every run.
func mixer() func() int64 {
	x := uint64(88172645463325252)
	return func() int64 {
		x ^= x << 13
		x ^= x >> 7
		x ^= x << 17
		return int64(x)
	}
}

// lists are numbers that may be packed as what is signed, of all sizes and lengths.
func lists() [][]int64 {
	all := [][]int64{
		nil, {}, {0}, {0, 0, 0}, {1}, {-1}, {1, -1}, {-1, 1}, {0, 1}, {0, -1}, {2, 1, 0, -1, -2}, {0, 5, 10}, {255, -255, 0},
		{5, -7, 3}, {7, -5}, {-7, 7}, {1, math.MaxInt64}, {-1, -math.MaxInt64}, {math.MaxInt64, -math.MaxInt64, 0, 1, -1},
		{math.MaxInt64}, {-math.MaxInt64}, {math.MaxInt64 - 1, -math.MaxInt64}, {math.MaxInt64, -math.MaxInt64 + 1},
		{1 << 62, 1<<62 - 1, -1 << 62}, {1 << 32, 1<<32 - 1, 1<<32 + 1}, {3, 3, 3}, {-3, -3, -3},
		repeated(0, api.MaxBlock), repeated(9, api.MaxBlock), repeated(-9, api.MaxBlock),
	}
	for _, top := range []int64{254, 255, 256, 510, 511, 1000} {
		var l []int64
		for n := -top; n <= top; n++ {
			l = append(l, n)
		}
		all = append(all, l)
	}
	next := mixer()
	for i := range 120 {
		var l []int64
		for range i + 1 {
			l = append(l, next()>>1>>(i/2)) // the least one of 64 bits is not among these
		}
		all = append(all, l)
	}
	return all
}

// may are all of the lists, with what is below nought turned, where the kind is not signed.
func may(kind int) [][]int64 {
	all := lists()
	if kind == api.Wide || book.Signed(kind) {
		return all
	}
	for _, l := range all {
		for i, n := range l {
			l[i] = max(n, -n)
		}
	}
	return all
}

// ends are codes of the least and of the greatest shares.
func ends(t *testing.T, kind int) []byte {
	t.Helper()
	l := []byte{codeOf(t, kind, 1, 1)}
	if book.Signed(kind) {
		l = append(l, codeOf(t, kind, -1, 1))
	}
	return l
}

// P11.1, K2: the chapter's example, and blocks reckoned by hand.
func TestPackSingle(t *testing.T) {
	for _, x := range []struct {
		kind  int
		l     []int64
		scale int64
		codes []byte
	}{
		{api.ULine, []int64{0, 5, 10}, 10, []byte{0, 127, 255}},
		{api.ULine, []int64{10}, 10, []byte{255}},
		{api.ULine, []int64{0, 0}, 0, []byte{0, 0}},
		{api.ULine, nil, 0, nil},
		{api.ULine, []int64{math.MaxInt64, 0}, math.MaxInt64, []byte{255, 0}},
		{api.Line, []int64{255, -255, 0}, 255, []byte{255, 0, 127}},
		{api.Line, []int64{-10, 10}, 10, []byte{0, 255}},
		{api.Line, []int64{-10, 5}, 10, []byte{0, 191}}, // 127.5 is nearest to 127
		{api.Line, []int64{0}, 0, []byte{127}},
		{api.Line, []int64{-math.MaxInt64, 1}, math.MaxInt64, []byte{0, 128}},
		{api.Tree, []int64{-10, 0, 10}, 10, []byte{0, 127, 255}},
		{api.Tree, []int64{-3}, 3, []byte{0}},
		{api.Tree, []int64{0, 0, 0}, 0, []byte{127, 127, 127}},
		{api.Tree, []int64{2560000000, 1408, -1408, 704, 705}, 2560000000, []byte{255, 128, 126, 127, 128}},
		{api.UTree, []int64{0, 7}, 7, []byte{0, 255}},
		{api.UTree, []int64{2560000000, 832, 416, 417}, 2560000000, []byte{255, 1, 0, 1}},
		{api.UTree, []int64{0}, 0, []byte{0}},
	} {
		b := packed(t, x.kind, x.l)
		if b.Kind != x.kind || b.Scale != x.scale || !bytes.Equal(b.Codes, x.codes) || len(b.Wide) > 0 {
			t.Errorf("Pack(%d, %d): %v", x.kind, x.l, b)
		}
	}
}

// P11.1, K2: Scale is the greatest, whatever its side, and each code that of a share of it.
func TestPack(t *testing.T) {
	for _, kind := range codebooks {
		for _, l := range may(kind) {
			b := packed(t, kind, l)
			if b.Kind != kind || b.Scale != greatest(l) || len(b.Codes) != len(l) || len(b.Wide) > 0 {
				t.Fatalf("Pack(%d, %d): %v", kind, l, b)
			}
			for i, n := range l {
				den := b.Scale
				if den == 0 {
					den = 1
				}
				if want := codeOf(t, kind, n, den); b.Codes[i] != want {
					t.Fatalf("Pack(%d, %d): code %d is %d, not %d", kind, l, i, b.Codes[i], want)
				}
			}
		}
	}
}

// P11.1, K1, K2: wide ones are their numbers, of both sides.
func TestWide(t *testing.T) {
	for _, l := range may(api.Wide) {
		b := packed(t, api.Wide, l)
		if b.Kind != api.Wide || b.Scale != 0 || len(b.Codes) > 0 || !slices.Equal(b.Wide, l) {
			t.Fatalf("Pack(%d, %d): %v", api.Wide, l, b)
		}
		if got := block.Load(b); !slices.Equal(got, l) {
			t.Fatalf("Load of %d: %d", l, got)
		}
	}
}

// P11.1, K2: what may not be packed, in any place; that is told ahead of there being too many.
func TestPackWrong(t *testing.T) {
	for _, kind := range noKinds {
		for _, l := range [][]int64{nil, {0}, {1, 2}, {-1}, {math.MinInt64}, repeated(0, api.MaxBlock+1)} {
			if b, e := block.Pack(kind, l); !none(b) || e != api.ErrArg {
				t.Errorf("Pack(%d) of %d numbers: %v %d", kind, len(l), b, e)
			}
		}
	}
	for _, kind := range kinds {
		for _, wrong := range []int64{math.MinInt64, -1, -2, -math.MaxInt64} {
			if wrong != math.MinInt64 && (kind == api.Wide || book.Signed(kind)) {
				continue
			}
			for _, l := range [][]int64{{wrong}, {wrong, 1}, {0, wrong, 5}, {7, math.MaxInt64, wrong}, append(repeated(3, api.MaxBlock), wrong), append(repeated(0, 2*api.MaxBlock), wrong)} {
				if b, e := block.Pack(kind, l); !none(b) || e != api.ErrArg {
					t.Errorf("Pack(%d) of %d numbers, one of them %d: %v %d", kind, len(l), wrong, b, e)
				}
			}
		}
	}
}

// P11.1, K2: MaxBlock numbers, and one more.
func TestPackLarge(t *testing.T) {
	for _, kind := range kinds {
		for _, n := range []int64{0, 1, math.MaxInt64} {
			b := packed(t, kind, repeated(n, api.MaxBlock))
			if block.Len(b) != api.MaxBlock || !block.Right(b) {
				t.Errorf("Pack(%d) of MaxBlock times %d: %d numbers", kind, n, block.Len(b))
			}
			for _, long := range []int{api.MaxBlock + 1, api.MaxBlock + 2, 3 * api.MaxBlock} {
				if b, e := block.Pack(kind, repeated(n, long)); !none(b) || e != api.ErrLarge {
					t.Errorf("Pack(%d) of %d times %d: %v %d", kind, long, n, b, e)
				}
			}
		}
	}
}

// P11.1, K1: each code's number is Scale times what it stands for, to the nearest, also where nothing was packed so.
func TestLoad(t *testing.T) {
	for _, kind := range codebooks {
		stands, _ := book.Book(kind)
		var codes []byte
		for c := range 256 {
			codes = append(codes, byte(c))
		}
		for _, scale := range []int64{1, 2, 3, 10, 51, 85, 127, 128, 254, 255, 256, 510, 765, 1000, 2560000000, 1280000000, 1 << 31, 1 << 53, 1 << 62, math.MaxInt64 - 1, math.MaxInt64} {
			l := block.Load(api.Block{Kind: kind, Scale: scale, Codes: codes})
			if len(l) != len(codes) {
				t.Fatalf("Load(%d, %d): %d numbers", kind, scale, len(l))
			}
			for c, n := range l {
				if want := times(scale, stands[c], book.Den(kind)); n != want {
					t.Errorf("Load(%d, %d): %d stands for %d, not %d", kind, scale, c, n, want)
				}
			}
		}
		nought := codeOf(t, kind, 0, 1)
		if l := block.Load(api.Block{Kind: kind, Codes: []byte{nought, nought}}); !slices.Equal(l, []int64{0, 0}) {
			t.Errorf("Load(%d, 0): %d", kind, l)
		}
	}
	for _, x := range []struct {
		b    api.Block
		want []int64
	}{
		{api.Block{Kind: api.ULine, Scale: 10, Codes: []byte{0, 127, 255}}, []int64{0, 5, 10}},
		{api.Block{Kind: api.Line, Scale: 255, Codes: []byte{255, 0, 127}}, []int64{255, -255, -1}},
		{api.Block{Kind: api.Line, Scale: 51, Codes: []byte{255, 129, 126}}, []int64{51, 1, -1}}, // 3 and -3 by 5
		{api.Block{Kind: api.Tree, Scale: 2560000000, Codes: []byte{255, 128, 127, 0}}, []int64{2560000000, 1408, 0, -2542000000}},
		{api.Block{Kind: api.Tree, Scale: 3, Codes: []byte{0}}, []int64{-3}},
		{api.Block{Kind: api.ULine, Scale: 255 * 2, Codes: []byte{255, 1, 0}}, []int64{510, 2, 0}},
		{api.Block{Kind: api.ULine}, nil},
		{api.Block{Kind: api.Wide}, nil},
		{api.Block{Kind: api.Wide, Wide: []int64{-5, math.MaxInt64, -math.MaxInt64}}, []int64{-5, math.MaxInt64, -math.MaxInt64}},
	} {
		if l := block.Load(x.b); !slices.Equal(l, x.want) {
			t.Errorf("Load(%v): %d, not %d", x.b, l, x.want)
		}
	}
}

// P11.1, K1: Len counts codes and wide numbers together, of any block.
func TestLen(t *testing.T) {
	for _, kind := range slices.Concat(kinds, noKinds) {
		for _, codes := range []int{0, 1, 5, 4097} {
			for _, wide := range []int{0, 1, 7, 4097} {
				b := api.Block{Kind: kind, Scale: -3, Codes: make([]byte, codes, codes+9), Wide: make([]int64, wide, wide+9)}
				if n := block.Len(b); n != codes+wide {
					t.Errorf("Len of %d codes and %d numbers: %d", codes, wide, n)
				}
			}
		}
	}
}

// P11.1, K1: what is right, though nothing was packed so.
func TestRight(t *testing.T) {
	for _, kind := range codebooks {
		nought := codeOf(t, kind, 0, 1)
		for _, long := range []int{0, 1, 2, api.MaxBlock} {
			if !block.Right(api.Block{Kind: kind, Codes: bytes.Repeat([]byte{nought}, long)}) {
				t.Errorf("Right: no, of %d noughts of %d", long, kind)
			}
		}
		for _, end := range ends(t, kind) {
			for _, scale := range []int64{1, 2, 255, 1 << 40, math.MaxInt64} {
				for _, codes := range [][]byte{{end}, {end, end}, {end, 1, 2}, {1, 2, end}, {nought, end, 77}, append(bytes.Repeat([]byte{nought}, api.MaxBlock-1), end)} {
					if !block.Right(api.Block{Kind: kind, Scale: scale, Codes: codes, Wide: []int64{}}) {
						t.Errorf("Right: no, of %d, %d, %v", kind, scale, codes)
					}
				}
			}
		}
	}
	for _, l := range [][]int64{nil, {}, {0}, {1, -1}, {math.MaxInt64, -math.MaxInt64}, repeated(5, api.MaxBlock)} {
		if !block.Right(api.Block{Kind: api.Wide, Wide: l, Codes: []byte{}}) {
			t.Errorf("Right: no, of wide %d", l)
		}
	}
}

// P11.1, K1: what is not right, a fault at a time.
func TestNotRight(t *testing.T) {
	for _, kind := range codebooks {
		nought, end := codeOf(t, kind, 0, 1), codeOf(t, kind, 1, 1)
		var inner []byte // all but the ends
		for c := range 256 {
			if !slices.Contains(ends(t, kind), byte(c)) {
				inner = append(inner, byte(c))
			}
		}
		for i, b := range []api.Block{
			{Scale: 5},
			{Scale: 5, Codes: []byte{nought}},
			{Scale: 5, Codes: inner},
			{Scale: 1, Codes: bytes.Repeat([]byte{nought}, api.MaxBlock)},
			{Scale: math.MaxInt64, Codes: []byte{nought, nought}},
			{Scale: 0, Codes: []byte{end}},
			{Scale: 0, Codes: []byte{nought, nought + 1}},
			{Scale: 0, Codes: []byte{nought + 1, nought}},
			{Scale: 0, Codes: append(bytes.Repeat([]byte{nought}, 99), end)},
			{Scale: -1, Codes: []byte{end}},
			{Scale: -1, Codes: []byte{nought}},
			{Scale: -1},
			{Scale: math.MinInt64, Codes: []byte{end}},
			{Scale: -5, Codes: []byte{end, nought}},
			{Scale: 5, Codes: []byte{end}, Wide: []int64{5}},
			{Scale: 0, Wide: []int64{0}},
			{Scale: 0, Codes: []byte{nought}, Wide: []int64{0}},
			{Scale: 0, Codes: bytes.Repeat([]byte{nought}, api.MaxBlock+1)},
			{Scale: 5, Codes: bytes.Repeat([]byte{end}, api.MaxBlock+1)},
		} {
			b.Kind = kind
			if block.Right(b) {
				t.Errorf("Right: yes, of block %d of kind %d", i, kind)
			}
		}
	}
	for _, kind := range []int{api.UTree, api.ULine} { // -1 is not among what these stand for
		if block.Right(api.Block{Kind: kind, Scale: 5, Codes: []byte{0, 0}}) {
			t.Errorf("Right: yes, of kind %d without its greatest", kind)
		}
	}
	for i, b := range []api.Block{
		{Scale: 1},
		{Scale: 5, Wide: []int64{5}},
		{Scale: -1, Wide: []int64{5}},
		{Scale: math.MinInt64},
		{Codes: []byte{0}},
		{Codes: []byte{127}, Wide: []int64{5}},
		{Wide: []int64{math.MinInt64}},
		{Wide: []int64{0, math.MinInt64}},
		{Wide: []int64{math.MinInt64, 0, 5}},
		{Wide: repeated(0, api.MaxBlock+1)},
	} {
		b.Kind = api.Wide
		if block.Right(b) {
			t.Errorf("Right: yes, of wide block %d", i)
		}
	}
	for _, kind := range noKinds {
		for _, b := range []api.Block{{}, {Codes: []byte{127}}, {Codes: []byte{0}}, {Scale: 5, Codes: []byte{255}}, {Wide: []int64{5}}} {
			b.Kind = kind
			if block.Right(b) {
				t.Errorf("Right: yes, of %v", b)
			}
		}
	}
}

// P11.1, K1: the same are blocks of which all is.
func TestSame(t *testing.T) {
	all := []api.Block{
		{},
		{Kind: api.ULine},
		{Kind: api.Wide},
		{Kind: 77},
		{Kind: -1},
		{Scale: 1},
		{Scale: -1},
		{Kind: api.ULine, Scale: 1},
		{Codes: []byte{0}},
		{Codes: []byte{1}},
		{Codes: []byte{0, 0}},
		{Codes: []byte{0, 1}},
		{Codes: []byte{1, 0}},
		{Wide: []int64{0}},
		{Wide: []int64{1}},
		{Wide: []int64{0, 1}},
		{Wide: []int64{1, 0}},
		{Codes: []byte{0}, Wide: []int64{0}},
		{Kind: api.Wide, Wide: []int64{0}},
		{Kind: api.Wide, Wide: []int64{math.MinInt64}},
		{Kind: api.Wide, Scale: 1, Wide: []int64{0}},
		{Kind: api.ULine, Scale: 10, Codes: []byte{0, 127, 255}},
		{Kind: api.ULine, Scale: 11, Codes: []byte{0, 127, 255}},
		{Kind: api.Line, Scale: 10, Codes: []byte{0, 127, 255}},
		{Kind: api.ULine, Scale: 10, Codes: []byte{0, 128, 255}},
		{Kind: api.ULine, Scale: 10, Codes: []byte{0, 127}},
		{Kind: api.ULine, Scale: 10, Codes: []byte{0, 127, 255}, Wide: []int64{0}},
	}
	for i, a := range all {
		for j, b := range all {
			b.Codes, b.Wide = append(make([]byte, 0, 9), b.Codes...), append(make([]int64, 0, 9), b.Wide...)
			if same := block.Same(a, b); same != (i == j) {
				t.Errorf("Same of %v and %v: %t", a, b, same)
			}
		}
	}
}

// P11.2: what is loaded is at most Scale times half the gap, by the denominator, and half a step away.
func TestNear(t *testing.T) {
	for _, kind := range codebooks {
		for _, l := range may(kind) {
			b := packed(t, kind, l)
			most := new(big.Int).Mul(big.NewInt(b.Scale), big.NewInt(book.Gap(kind)))
			most.Add(most, big.NewInt(book.Den(kind))) // both are halves by the denominator
			for i, n := range block.Load(b) {
				away := new(big.Int).Sub(big.NewInt(n), big.NewInt(l[i]))
				away.Mul(away.Abs(away), big.NewInt(2*book.Den(kind)))
				if away.Cmp(most) > 0 {
					t.Fatalf("Load of Pack(%d, %d): %d is too far away", kind, l, n)
				}
			}
		}
	}
}

// P11.3: what is packed is right, and as long.
func TestPackedIsRight(t *testing.T) {
	for _, kind := range kinds {
		for _, l := range may(kind) {
			b := packed(t, kind, l)
			if !block.Right(b) || block.Len(b) != len(l) || len(block.Load(b)) != len(l) {
				t.Fatalf("Pack(%d, %d): %v", kind, l, b)
			}
		}
	}
}

// P11.4: none is loaded as greater than Scale, and the greatest one of what is not signed as it is.
func TestGreatest(t *testing.T) {
	for _, kind := range codebooks {
		for _, l := range may(kind) {
			b := packed(t, kind, l)
			for i, n := range block.Load(b) {
				if size(n).Cmp(big.NewInt(b.Scale)) > 0 {
					t.Fatalf("Load of Pack(%d, %d): %d", kind, l, n)
				}
				if !book.Signed(kind) && l[i] == b.Scale && n != l[i] {
					t.Fatalf("Load of Pack(%d, %d): %d, not the greatest", kind, l, n)
				}
			}
		}
	}
}

// P11.1 with R4: nothing that is handed in is changed, and nobody sees what another one changes later.
func TestApart(t *testing.T) {
	for _, kind := range kinds {
		room := []int64{3, 0, 9, 5, 7, 11}
		l := room[:4]
		b := packed(t, kind, l)
		again := packed(t, kind, slices.Clone(l))
		if !slices.Equal(room, []int64{3, 0, 9, 5, 7, 11}) {
			t.Errorf("Pack(%d) changed %d", kind, room)
		}
		for i := range room {
			room[i] = 99
		}
		if !block.Same(b, again) || !block.Right(b) {
			t.Errorf("Pack(%d): it hangs on what was handed in", kind)
		}
		first := block.Load(b)
		kept := slices.Clone(first)
		for i := range first {
			first[i] = -77
		}
		_ = append(first, 1, 2, 3)
		if !block.Same(b, again) || !slices.Equal(block.Load(b), kept) {
			t.Errorf("Load of kind %d: the block hangs on what was loaded", kind)
		}
	}
}

// P11.1 with R1: blocks of no kind, and wrong ones, end without a panic.
func TestWrongBlocks(t *testing.T) {
	for _, kind := range slices.Concat(kinds, noKinds) {
		for _, scale := range []int64{0, 1, -1, math.MaxInt64, math.MinInt64} {
			for _, codes := range [][]byte{nil, {0, 127, 255}} {
				for _, wide := range [][]int64{nil, {0, math.MinInt64}} {
					b := api.Block{Kind: kind, Scale: scale, Codes: codes, Wide: wide}
					block.Right(b)
					block.Load(b)
					block.Same(b, b)
				}
			}
		}
	}
}
