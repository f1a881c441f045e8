package zed_test

import (
	"math"
	"math/big"
	"regexp"
	"slices"
	"strings"
	"testing"

	"ratchet/api"
	"ratchet/zed"
)

const (
	full = 1<<64 - 1
	half = 1 << 63
)

func signs(n api.Nat) []api.Zed {
	if len(n) == 0 {
		return []api.Zed{{}}
	}
	return []api.Zed{{N: n}, {Neg: true, N: n}}
}

// edges are integers of at most three limbs whose limbs lie at an end or at the middle, with both signs.
func edges() []api.Zed {
	all := signs(nil)
	ends := []uint64{0, 1, half, full}
	for _, top := range []uint64{1, half - 1, half, half + 1, full} {
		all = append(all, signs(api.Nat{top})...)
		for _, mid := range ends {
			all = append(all, signs(api.Nat{mid, top})...)
			for _, low := range ends {
				all = append(all, signs(api.Nat{low, mid, top})...)
			}
		}
	}
	return all
}

// long are greater integers of mixed limbs, the same in every run.
func long() []api.Zed {
	var all []api.Zed
	x := uint64(88172645463325252)
	for _, n := range []int{1, 2, 3, 4, 5, 9, 17, 40} {
		a := make(api.Nat, n)
		for i := range a {
			x ^= x << 13
			x ^= x >> 7
			x ^= x << 17
			a[i] = x
		}
		a[n-1] |= 1
		all = append(all, signs(a)...)
	}
	return all
}

// small are the integers around nought, one by one.
func small() []api.Zed {
	var all []api.Zed
	for n := int64(-12); n <= 12; n++ {
		all = append(all, zed.Of(n))
	}
	return all
}

func bigOf(a api.Zed) *big.Int {
	n := new(big.Int)
	for _, x := range slices.Backward(a.N) {
		n.Lsh(n, 64).Or(n, new(big.Int).SetUint64(x))
	}
	if a.Neg {
		n.Neg(n)
	}
	return n
}

func isRight(a api.Zed) bool {
	if len(a.N) == 0 {
		return !a.Neg
	}
	return a.N[len(a.N)-1] != 0
}

func same(a, b api.Zed) bool {
	return a.Neg == b.Neg && slices.Equal(a.N, b.N)
}

func is(t *testing.T, what string, got api.Zed, want *big.Int) {
	t.Helper()
	if !isRight(got) || bigOf(got).Cmp(want) != 0 {
		t.Fatalf("%s: %v, not %v", what, got, want)
	}
}

func nought(a api.Zed, n int) bool {
	return !a.Neg && len(a.N) == 0 && n == 0
}

// P4.1, D1: Right.
func TestRight(t *testing.T) {
	for _, a := range slices.Concat([]api.Zed{{}, {N: api.Nat{}}}, small(), edges(), long()) {
		if !zed.Right(a) {
			t.Errorf("%v is right", a)
		}
	}
	for _, a := range []api.Zed{
		{Neg: true},
		{Neg: true, N: api.Nat{}},
		{N: api.Nat{0}},
		{Neg: true, N: api.Nat{0}},
		{N: api.Nat{1, 0}},
		{Neg: true, N: api.Nat{1, 0}},
		{Neg: true, N: api.Nat{0, 1, 0}},
	} {
		if zed.Right(a) {
			t.Errorf("%v is not right", a)
		}
	}
}

// P4.1, D1: Of and Int.
func TestOfAndInt(t *testing.T) {
	for _, n := range []int64{0, 1, -1, 2, -2, 1 << 32, -1 << 32, math.MaxInt64 - 1, math.MaxInt64, math.MinInt64, math.MinInt64 + 1} {
		a := zed.Of(n)
		is(t, "Of", a, big.NewInt(n))
		if m, ok := zed.Int(a); m != n || !ok {
			t.Errorf("Int of %v: %d %v", a, m, ok)
		}
	}
	for _, a := range slices.Concat(small(), edges(), long()) {
		n, ok := zed.Int(a)
		want := bigOf(a)
		if ok != want.IsInt64() || ok && n != want.Int64() || !ok && n != 0 {
			t.Errorf("Int of %v: %d %v", a, n, ok)
		}
	}
	for _, a := range []api.Zed{{N: api.Nat{half}}, {Neg: true, N: api.Nat{half + 1}}, {N: api.Nat{full}}, {Neg: true, N: api.Nat{full}}, {N: api.Nat{0, 1}}, {Neg: true, N: api.Nat{half, 1}}} {
		if n, ok := zed.Int(a); n != 0 || ok {
			t.Errorf("Int of %v: %d %v", a, n, ok)
		}
	}
}

// P4.1, D1: Neg, Cmp, Add and Mul against math/big.
func TestAgainstBig(t *testing.T) {
	all := slices.Concat(small(), edges(), long())
	for _, a := range all {
		x := bigOf(a)
		is(t, "Neg", zed.Neg(a), new(big.Int).Neg(x))
		for _, b := range all {
			y := bigOf(b)
			if c := zed.Cmp(a, b); c != x.Cmp(y) {
				t.Fatalf("Cmp of %v and %v: %d", a, b, c)
			}
			is(t, "Add", zed.Add(a, b), new(big.Int).Add(x, y))
			is(t, "Mul", zed.Mul(a, b), new(big.Int).Mul(x, y))
		}
	}
}

// P4.1, D2: texts, both ways, and edges of 64 bits and of parts of figures.
func TestTexts(t *testing.T) {
	for _, x := range []struct {
		s string
		a api.Zed
	}{
		{"0", api.Zed{}},
		{"1", api.Zed{N: api.Nat{1}}},
		{"-1", api.Zed{Neg: true, N: api.Nat{1}}},
		{"10", api.Zed{N: api.Nat{10}}},
		{"-900", api.Zed{Neg: true, N: api.Nat{900}}},
		{"9223372036854775807", api.Zed{N: api.Nat{half - 1}}},
		{"-9223372036854775808", api.Zed{Neg: true, N: api.Nat{half}}},
		{"9999999999999999999", api.Zed{N: api.Nat{9999999999999999999}}},
		{"10000000000000000000", api.Zed{N: api.Nat{10000000000000000000}}},
		{"10000000000000000001", api.Zed{N: api.Nat{10000000000000000001}}},
		{"18446744073709551615", api.Zed{N: api.Nat{full}}},
		{"-18446744073709551616", api.Zed{Neg: true, N: api.Nat{0, 1}}},
		{"340282366920938463463374607431768211455", api.Zed{N: api.Nat{full, full}}},
	} {
		if s := zed.Print(x.a); s != x.s {
			t.Errorf("Print of %v: %s, not %s", x.a, s, x.s)
		}
		if a, n, e := zed.Read(x.s); e != api.OK || n != 0 || !same(a, x.a) {
			t.Errorf("Read of %s: %v %d %v", x.s, a, n, e)
		}
	}
}

// P4.1, D2: Print against math/big, at any size, noughts in the middle included.
func TestPrint(t *testing.T) {
	for _, a := range slices.Concat(small(), edges(), long()) {
		if s := zed.Print(a); s != bigOf(a).String() {
			t.Fatalf("Print of %v: %s", a, s)
		}
	}
	for n := range 120 {
		s := "1" + strings.Repeat("0", n)
		a, _, e := zed.Read(s)
		if got := zed.Print(a); e != api.OK || got != s {
			t.Errorf("Print of 10 to the power of %d: %s", n, got)
		}
		one := zed.Add(a, zed.Of(-1))
		want := strings.Repeat("9", n)
		if n == 0 {
			want = "0"
		}
		if got := zed.Print(one); got != want {
			t.Errorf("Print of 1 less than 10 to the power of %d: %s", n, got)
		}
	}
	great := make(api.Nat, 300) // its text is longer than any that is read
	great[299] = 1
	if s := zed.Print(api.Zed{Neg: true, N: great}); s != bigOf(api.Zed{Neg: true, N: great}).String() {
		t.Errorf("Print of a great one: %s", s)
	}
}

// P4.1, D2: the chapter's example, and other texts that are wrong.
func TestWrongTexts(t *testing.T) {
	for _, x := range []struct {
		s  string
		at int
	}{
		{"-05", 1},
		{"", 0},
		{"-", 1},
		{"--", 1},
		{"-0", 1},
		{"00", 1},
		{"05", 1},
		{"0-", 1},
		{"+5", 0},
		{" 5", 0},
		{"5 ", 1},
		{"5\n", 1},
		{"5-", 1},
		{"5-3", 1},
		{"1_000", 1},
		{"12.5", 2},
		{"1e5", 1},
		{"0x1", 1},
		{"-12a34b", 3},
		{"/", 0},
		{":", 0},
		{"1/", 1},
		{"1:", 1},
		{"12\x00", 2},
		{"é1", 0},
		{"-é", 1},
		{"12é", 2},
		{"12世3", 2},
		{"٣", 0},     // a figure of another script
		{"1２", 1},    // a broad 2
		{"−5", 0},    // the sign of mathematics
		{"1\xff", 1}, // no rune at all
		{"\xc3", 0},
		{"-1\xe4\xb8", 2},
		{"1\ufffd", 1},
	} {
		if a, n, e := zed.Read(x.s); e != api.ErrForm || n != x.at || !nought(a, 0) {
			t.Errorf("Read of %q: %v %d %v", x.s, a, n, e)
		}
	}
}

// P4.1, D2: every short text of these parts, held against what a text is and what begins one.
func TestAllShortTexts(t *testing.T) {
	text := regexp.MustCompile(`^(0|-?[1-9][0-9]*)$`)
	begun := regexp.MustCompile(`^(0|-?([1-9][0-9]*)?)$`)
	parts := []string{"-", "0", "1", "9", "+", "é", "\xff"}
	texts := []string{""}
	for from := 0; len(texts) < 20000; {
		to := len(texts)
		for _, s := range texts[from:to] {
			for _, p := range parts {
				texts = append(texts, s+p)
			}
		}
		from = to
	}
	for _, s := range texts {
		a, n, e := zed.Read(s)
		if text.MatchString(s) {
			if want, _ := new(big.Int).SetString(s, 10); e != api.OK || n != 0 || !isRight(a) || bigOf(a).Cmp(want) != 0 {
				t.Fatalf("Read of %q: %v %d %v", s, a, n, e)
			}
			continue
		}
		at := len(s)
		for i, r := range s {
			if !begun.MatchString(s[:i] + string(r)) {
				at = i
				break
			}
		}
		if e != api.ErrForm || n != at || !nought(a, 0) {
			t.Fatalf("Read of %q: %v %d %v, not at %d", s, a, n, e, at)
		}
	}
}

// P4.1, D2: the limit is one of bytes, and goes ahead of the form.
func TestLongTexts(t *testing.T) {
	nines := strings.Repeat("9", api.MaxText+10)
	for _, n := range []int{api.MaxText - 1, api.MaxText} {
		for _, s := range []string{nines[:n], "-" + nines[:n-1]} {
			a, at, e := zed.Read(s)
			if want, _ := new(big.Int).SetString(s, 10); e != api.OK || at != 0 || !isRight(a) || bigOf(a).Cmp(want) != 0 {
				t.Errorf("Read of %d bytes: %v %d %v", n, a, at, e)
			}
			if zed.Print(a) != s {
				t.Errorf("Print of what %d bytes stand for", n)
			}
		}
	}
	for _, s := range []string{
		nines[:api.MaxText+1],
		"-" + nines[:api.MaxText],
		nines,
		strings.Repeat("0", api.MaxText+1),
		strings.Repeat("x", api.MaxText+1),
		strings.Repeat("é", api.MaxText/2) + "é",
		strings.Repeat("世", api.MaxText/2),
		"x" + nines,
	} {
		if a, n, e := zed.Read(s); e != api.ErrLarge || !nought(a, n) {
			t.Errorf("Read of %d bytes: %v %d %v", len(s), a, n, e)
		}
	}
	for s, at := range map[string]int{
		nines[:api.MaxText-1] + "x":        api.MaxText - 1,
		nines[:api.MaxText-2] + "é":        api.MaxText - 2,
		strings.Repeat("é", api.MaxText/2): 0,
		strings.Repeat("0", api.MaxText):   1,
		"-0" + nines[:api.MaxText-2]:       1,
	} {
		if a, n, e := zed.Read(s); e != api.ErrForm || n != at || !nought(a, 0) {
			t.Errorf("Read of %d bytes, wrong at %d: %v %d %v", len(s), at, a, n, e)
		}
	}
}

// P4.2.
func TestRing(t *testing.T) {
	all := slices.Concat(small()[8:17], edges()[:40], long()[:8])
	one := zed.Of(1)
	for _, a := range all {
		if s := zed.Add(a, zed.Neg(a)); !nought(s, 0) {
			t.Fatalf("%v and its other way round: %v", a, s)
		}
		if n := zed.Neg(zed.Neg(a)); !same(n, a) {
			t.Fatalf("%v, twice round: %v", a, n)
		}
		if !same(zed.Add(a, api.Zed{}), a) || !same(zed.Mul(a, one), a) || !nought(zed.Mul(a, api.Zed{}), 0) {
			t.Fatalf("%v with nought and 1", a)
		}
		for _, b := range all {
			sum, product := zed.Add(a, b), zed.Mul(a, b)
			if !same(sum, zed.Add(b, a)) || !same(product, zed.Mul(b, a)) {
				t.Fatalf("order of %v and %v", a, b)
			}
			for _, c := range all {
				if !same(zed.Add(sum, c), zed.Add(a, zed.Add(b, c))) {
					t.Fatalf("sums of %v, %v and %v", a, b, c)
				}
				if !same(zed.Mul(product, c), zed.Mul(a, zed.Mul(b, c))) {
					t.Fatalf("products of %v, %v and %v", a, b, c)
				}
				if !same(zed.Mul(sum, c), zed.Add(zed.Mul(a, c), zed.Mul(b, c))) {
					t.Fatalf("a product of a sum: %v, %v and %v", a, b, c)
				}
			}
		}
	}
}

// P4.1, D1: Cmp tells the order.
func TestOrder(t *testing.T) {
	all := slices.Concat(small(), edges(), long())
	slices.SortFunc(all, func(a, b api.Zed) int { return bigOf(a).Cmp(bigOf(b)) })
	for i, a := range all {
		for _, b := range all[i:] {
			want := -1
			if same(a, b) {
				want = 0
			}
			if c, d := zed.Cmp(a, b), zed.Cmp(b, a); c != want || d != -want {
				t.Fatalf("Cmp of %v and %v: %d, and %d back", a, b, c, d)
			}
		}
	}
}

// P4.3: from integers to texts and back.
func TestPrintAndBack(t *testing.T) {
	for _, a := range slices.Concat(small(), edges(), long()) {
		s := zed.Print(a)
		b, n, e := zed.Read(s)
		if len(s) > api.MaxText {
			if e != api.ErrLarge || !nought(b, n) {
				t.Fatalf("Read of %s: %v %d %v", s, b, n, e)
			}
			continue
		}
		if e != api.OK || n != 0 || !same(a, b) {
			t.Fatalf("Read of %s: %v %d %v", s, b, n, e)
		}
	}
}

// P4.3: from texts to integers and back, at every length.
func TestReadAndBack(t *testing.T) {
	figures := []byte(strings.Repeat("7305000090000000000000000000012", api.MaxText/31+1))
	for n := 1; n <= api.MaxText; n++ {
		texts := []string{string(figures[:n])}
		if n < api.MaxText {
			texts = append(texts, "-"+string(figures[:n]))
		}
		for _, s := range texts {
			a, at, e := zed.Read(s)
			if e != api.OK || at != 0 || zed.Print(a) != s {
				t.Fatalf("%s: %v %d %v, and back %s", s, a, at, e, zed.Print(a))
			}
		}
	}
}

// R4: neither what is handed in nor the room behind it is changed, and an answer is memory of its own.
func TestKeepsArguments(t *testing.T) {
	first := api.Nat{full, 3, 77, 78}
	room := slices.Clone(first)
	args := []api.Zed{{N: room[:2]}, {Neg: true, N: room[:2]}, {N: room[:1]}, {Neg: true, N: room[:1]}, {N: room[:0]}}
	var answers []api.Nat
	for _, a := range args {
		answers = append(answers, zed.Neg(a).N)
		zed.Print(a)
		for _, b := range args {
			answers = append(answers, zed.Add(a, b).N, zed.Mul(a, b).N)
		}
	}
	copies := make([]api.Nat, len(answers))
	for i, x := range answers {
		copies[i] = slices.Clone(x)
	}
	for i, x := range answers { // whoever writes into one answer, all its room, changes no other one
		if !slices.Equal(x, copies[i]) {
			t.Errorf("answer %d shares memory with one ahead of it", i)
		}
		x = x[:cap(x)]
		for j := range x {
			x[j] = 99
		}
	}
	if !slices.Equal(room, first) {
		t.Errorf("changed: %v", room)
	}
}

// R4: nil and the empty list are the same.
func TestNothing(t *testing.T) {
	for _, a := range []api.Zed{{}, {N: api.Nat{}}} {
		if n, ok := zed.Int(a); n != 0 || !ok {
			t.Errorf("Int of nought: %d %v", n, ok)
		}
		if !nought(zed.Neg(a), 0) || !nought(zed.Add(a, a), 0) || !nought(zed.Mul(a, zed.Of(-5)), 0) || zed.Cmp(a, api.Zed{}) != 0 || zed.Print(a) != "0" {
			t.Errorf("nought, %v", a)
		}
	}
}

// No call panics, and all end, even at integers that are not right.
func TestWrongIntegers(t *testing.T) {
	all := []api.Zed{{Neg: true}}
	for _, n := range []api.Nat{{0}, {0, 0}, {1, 0}, {0, 1, 0}, {full, 0, 0}, make(api.Nat, 100)} {
		all = append(all, api.Zed{N: n}, api.Zed{Neg: true, N: n})
	}
	for _, a := range all {
		zed.Right(a)
		zed.Int(a)
		zed.Neg(a)
		zed.Print(a)
		for _, b := range all {
			zed.Cmp(a, b)
			zed.Add(a, b)
			zed.Mul(a, b)
		}
	}
}
