package pack_test

import (
	"bytes"
	"encoding/binary"
	"math"
	"math/big"
	"slices"
	"testing"

	"ratchet/api"
	"ratchet/pack"
)

// source makes numbers that look like any, the same in every run.
type source uint64

func (s *source) next() uint64 {
	*s ^= *s << 13
	*s ^= *s >> 7
	*s ^= *s << 17
	return uint64(*s)
}

func (s *source) bytes(n int) []byte {
	b := make([]byte, n)
	for i := range b {
		b[i] = byte(s.next() >> 32)
	}
	return b
}

func newSource() *source {
	s := source(88172645463325252)
	return &s
}

// laid is a number's bytes as the Words say them, of a number of any size.
func laid(n *big.Int) []byte {
	var b []byte
	sevens := func(i int) byte {
		return byte(new(big.Int).And(new(big.Int).Rsh(n, uint(7*i)), big.NewInt(127)).Uint64())
	}
	needs := max(1, (n.BitLen()+6)/7)
	for i := 0; i < needs-1; i++ {
		b = append(b, sevens(i)+128)
	}
	return append(b, sevens(needs-1))
}

func laidOf(n uint64) []byte { return laid(new(big.Int).SetUint64(n)) }

// numberOf is an integer's number as the Words say it, where nothing goes round.
func numberOf(n int64) *big.Int {
	x := big.NewInt(n)
	if n >= 0 {
		return x.Lsh(x, 1)
	}
	x.Neg(x)
	x.Sub(x, big.NewInt(1))
	x.Lsh(x, 1)
	return x.Add(x, big.NewInt(1))
}

// numbers are those at which one byte more is needed, those of one bit, those beside both, and any.
func numbers() []uint64 {
	all := []uint64{math.MaxUint64, math.MaxUint64 - 1, 300, 1e18}
	for n := uint64(0); n < 400; n++ {
		all = append(all, n)
	}
	for i := 0; i < 64; i++ {
		n := uint64(1) << i
		all = append(all, n-2, n-1, n, n+1, n+2, n|n>>7|n>>14)
	}
	s := newSource()
	for i := 0; i < 2000; i++ {
		all = append(all, s.next()>>(i%64))
	}
	return all
}

func integers() []int64 {
	all := []int64{math.MinInt64, math.MinInt64 + 1, math.MaxInt64, math.MaxInt64 - 1}
	for _, n := range numbers() {
		all = append(all, int64(n), -int64(n))
	}
	return all
}

// rows are of all lengths up to some, those at which their number needs a byte more, and some longer.
func rows() [][]byte {
	s := newSource()
	all := [][]byte{nil, {}, []byte("ratchet")}
	for n := 0; n <= 140; n++ {
		all = append(all, make([]byte, n), bytes.Repeat([]byte{255}, n), s.bytes(n))
	}
	for _, n := range []int{255, 256, 300, 1984, 4096, 16383, 16384, 16385, 70000} {
		all = append(all, s.bytes(n))
	}
	return all
}

// sides are what may stand ahead or behind.
func sides() [][]byte {
	return [][]byte{nil, {}, {0}, {1}, {127}, {128}, {255}, {128, 0}, {172, 2}, bytes.Repeat([]byte{128}, 12), bytes.Repeat([]byte{255}, 12), []byte("behind")}
}

func join(lists ...[]byte) []byte { return bytes.Join(lists, nil) }

func same(t *testing.T, what string, got, want []byte) {
	t.Helper()
	if !bytes.Equal(got, want) {
		t.Fatalf("%s: %x, wanted %x", what, got, want)
	}
}

// takes holds that b begins with n's bytes, and with no other number's.
func takes(t *testing.T, b []byte, n uint64, rest []byte) {
	t.Helper()
	if got, left, e := pack.Take(b); got != n || !bytes.Equal(left, rest) || e != api.OK {
		t.Fatalf("Take(%x): %d, %x, %d; wanted %d, %x", b, got, left, e, n, rest)
	}
}

func takesInt(t *testing.T, b []byte, n int64, rest []byte) {
	t.Helper()
	if got, left, e := pack.TakeInt(b); got != n || !bytes.Equal(left, rest) || e != api.OK {
		t.Fatalf("TakeInt(%x): %d, %x, %d; wanted %d, %x", b, got, left, e, n, rest)
	}
}

func takesRow(t *testing.T, b []byte, most int, l, rest []byte) {
	t.Helper()
	if got, left, e := pack.TakeRow(b, most); !bytes.Equal(got, l) || !bytes.Equal(left, rest) || e != api.OK {
		t.Fatalf("TakeRow(%x, %d): %x, %x, %d; wanted %x, %x", b, most, got, left, e, l, rest)
	}
}

func refusesRow(t *testing.T, b []byte, most int, want api.Errno) {
	t.Helper()
	if l, left, e := pack.TakeRow(b, most); len(l) != 0 || len(left) != 0 || e != want {
		t.Fatalf("TakeRow(%x, %d): %x, %x, %d; wanted nothing, %d", b, most, l, left, e, want)
	}
}

// mosts are how many bytes a row may have, up to below none.
var mosts = []int{math.MaxInt, math.MaxInt - 1, 1 << 32, 4096, 1, 0, -1, -4096, math.MinInt}

// refuses holds that b begins with no number's bytes, nor with an integer's, nor a row's.
func refuses(t *testing.T, b []byte) {
	t.Helper()
	if n, left, e := pack.Take(b); n != 0 || len(left) != 0 || e != api.ErrForm {
		t.Fatalf("Take(%x): %d, %x, %d; wanted 0, nothing, ErrForm", b, n, left, e)
	}
	if n, left, e := pack.TakeInt(b); n != 0 || len(left) != 0 || e != api.ErrForm {
		t.Fatalf("TakeInt(%x): %d, %x, %d; wanted 0, nothing, ErrForm", b, n, left, e)
	}
	for _, most := range mosts {
		refusesRow(t, b, most, api.ErrForm)
	}
}

// P13.1, M1: the bytes of some numbers, written out.
func TestPutKnown(t *testing.T) {
	for _, c := range []struct {
		n    uint64
		want string
	}{
		{0, "\x00"},
		{1, "\x01"},
		{127, "\x7f"},
		{128, "\x80\x01"},
		{255, "\xff\x01"},
		{256, "\x80\x02"},
		{300, "\xac\x02"},
		{16383, "\xff\x7f"},
		{16384, "\x80\x80\x01"},
		{1<<63 - 1, "\xff\xff\xff\xff\xff\xff\xff\xff\x7f"},
		{1 << 63, "\x80\x80\x80\x80\x80\x80\x80\x80\x80\x01"},
		{math.MaxUint64, "\xff\xff\xff\xff\xff\xff\xff\xff\xff\x01"},
	} {
		same(t, "Put", pack.Put(nil, c.n), []byte(c.want))
		takes(t, []byte(c.want), c.n, nil)
	}
}

// P13.1, M1: behind b stand the number's bytes, and b stays ahead of them.
func TestPut(t *testing.T) {
	for _, n := range numbers() {
		want := laidOf(n)
		same(t, "Put", pack.Put(nil, n), want)
		same(t, "Put, by Go's own", pack.Put(nil, n), binary.AppendUvarint(nil, n))
		for _, b := range sides() {
			same(t, "Put", pack.Put(b, n), join(b, want))
		}
	}
}

// P13.1, M1: what is taken, with the rest behind it.
func TestTake(t *testing.T) {
	for _, n := range numbers() {
		for _, rest := range sides() {
			takes(t, join(laidOf(n), rest), n, rest)
		}
	}
}

// P13.1, M1: of all rows of up to two bytes, and of some of three, just those begin with a number's that some number has.
func TestTakeAll(t *testing.T) {
	known := map[string]uint64{}
	for n := uint64(0); n < 1<<14; n++ {
		known[string(laidOf(n))] = n
	}
	refuses(t, nil)
	refuses(t, []byte{})
	for c := 0; c < 256; c++ {
		takeKnown(t, known, []byte{byte(c)})
		for d := 0; d < 256; d++ {
			takeKnown(t, known, []byte{byte(c), byte(d)})
			for _, f := range []byte{0, 1, 127, 128, 129, 255} {
				if c < 128 || d < 128 {
					takeKnown(t, known, []byte{byte(c), byte(d), f})
				}
			}
		}
	}
}

// takeKnown looks among what is known for what b, of which the third byte is behind, begins with.
func takeKnown(t *testing.T, known map[string]uint64, b []byte) {
	t.Helper()
	for long := 1; long <= min(2, len(b)); long++ {
		if n, ok := known[string(b[:long])]; ok {
			takes(t, b, n, b[long:])
			return
		}
	}
	refuses(t, b)
}

// P13.1, M1: bytes that lack their end begin with no number's.
func TestTakeLacking(t *testing.T) {
	for _, n := range numbers() {
		b := laidOf(n)
		for long := range b {
			refuses(t, b[:long])
		}
	}
	for long := 0; long < 40; long++ {
		refuses(t, bytes.Repeat([]byte{128}, long))
		refuses(t, bytes.Repeat([]byte{255}, long))
	}
	refuses(t, bytes.Repeat([]byte{128}, 1<<20))
}

// P13.1, M1: noughts that are not needed make them none's, however many.
func TestTakeTooMany(t *testing.T) {
	for _, n := range numbers() {
		b := laidOf(n)
		b[len(b)-1] += 128
		for i := 0; i < 14; i++ {
			for _, rest := range sides() {
				refuses(t, join(b, bytes.Repeat([]byte{128}, i), []byte{0}, rest))
			}
		}
	}
}

// P13.1, M1: with nine bytes ahead, of 63 bits, just one bit more is left.
func TestTakeTooGreat(t *testing.T) {
	s := newSource()
	for i := 0; i < 60; i++ {
		ahead := s.bytes(9)
		switch i {
		case 0:
			ahead = make([]byte, 9)
		case 1:
			ahead = bytes.Repeat([]byte{255}, 9)
		}
		n := uint64(1) << 63
		for j := range ahead {
			ahead[j] |= 128
			n |= uint64(ahead[j]-128) << (7 * j)
		}
		for c := 0; c < 256; c++ {
			b := join(ahead, []byte{byte(c)})
			if c == 1 {
				takes(t, b, n, nil)
				takes(t, join(b, []byte{7, 255}), n, []byte{7, 255})
				continue
			}
			refuses(t, b)
			refuses(t, join(b, []byte{0}))
			refuses(t, join(b, []byte{1}))
			refuses(t, join(b, []byte{128, 1}))
		}
	}
}

// P13.1, M1: numbers of more than 64 bits are none.
func TestTakeMoreBits(t *testing.T) {
	for i := uint(64); i < 150; i++ {
		n := new(big.Int).Lsh(big.NewInt(1), i)
		for _, d := range []int64{0, 1, 300, -1} {
			if more := new(big.Int).Add(n, big.NewInt(d)); more.BitLen() > 64 {
				refuses(t, laid(more))
				refuses(t, join(laid(more), []byte("behind")))
			}
		}
	}
}

// P13.1, M1: the numbers of some integers, written out.
func TestPutIntKnown(t *testing.T) {
	for _, c := range []struct {
		n    int64
		want uint64
	}{
		{0, 0},
		{-1, 1},
		{1, 2},
		{-2, 3},
		{2, 4},
		{63, 126},
		{-64, 127},
		{64, 128},
		{150, 300},
		{math.MaxInt64, math.MaxUint64 - 1},
		{math.MinInt64, math.MaxUint64},
		{math.MinInt64 + 1, math.MaxUint64 - 2},
	} {
		same(t, "PutInt", pack.PutInt(nil, c.n), laidOf(c.want))
		takesInt(t, laidOf(c.want), c.n, nil)
	}
}

// P13.1, M1: an integer's bytes are those of its number.
func TestPutInt(t *testing.T) {
	for _, n := range integers() {
		want := laid(numberOf(n))
		same(t, "PutInt", pack.PutInt(nil, n), want)
		same(t, "PutInt, by Go's own", pack.PutInt(nil, n), binary.AppendVarint(nil, n))
		for _, b := range sides() {
			same(t, "PutInt", pack.PutInt(b, n), join(b, want))
			takesInt(t, join(want, b), n, b)
		}
	}
}

// P13.1, M1: each number is an integer's, and all that is taken as the one is taken as the other.
func TestTakeInt(t *testing.T) {
	for _, n := range numbers() {
		got, rest, e := pack.TakeInt(join(laidOf(n), []byte{9}))
		if e != api.OK || !bytes.Equal(rest, []byte{9}) || numberOf(got).Cmp(new(big.Int).SetUint64(n)) != 0 {
			t.Fatalf("TakeInt of %d: %d, %x, %d", n, got, rest, e)
		}
	}
}

// P13.1, M1: behind b stands how many bytes the row has, then the row.
func TestPutRow(t *testing.T) {
	for _, l := range rows() {
		want := join(laidOf(uint64(len(l))), l)
		for _, b := range sides() {
			same(t, "PutRow", pack.PutRow(b, l), join(b, want))
		}
	}
	same(t, "PutRow", pack.PutRow([]byte("a"), []byte("bc")), []byte("a\x02bc"))
	same(t, "PutRow of nothing", pack.PutRow(nil, nil), []byte{0})
}

// P13.1, M1: the row is taken, with the rest behind it, if it has no more bytes than it may.
func TestTakeRow(t *testing.T) {
	for _, l := range rows() {
		for _, rest := range sides() {
			b := join(laidOf(uint64(len(l))), l, rest)
			for _, most := range []int{len(l), len(l) + 1, len(l) + 128, 1 << 32, math.MaxInt} {
				takesRow(t, b, most, l, rest)
			}
			for _, most := range []int{len(l) - 1, len(l) - 128, len(l) / 2, 0, -1, math.MinInt} {
				if most < len(l) {
					refusesRow(t, b, most, api.ErrLarge)
				}
			}
		}
	}
}

// P13.1, M1: a row that ends too soon is of no form; that it would be too long goes ahead.
func TestTakeRowShort(t *testing.T) {
	for _, l := range rows() {
		b := join(laidOf(uint64(len(l))), l)
		for long := len(b) - len(l); long < len(b); long += 1 + len(l)/20 {
			for _, most := range []int{len(l), len(l) + 1, 1 << 20, math.MaxInt} {
				refusesRow(t, b[:long], most, api.ErrForm)
			}
			for _, most := range []int{len(l) - 1, 0, -1, math.MinInt} {
				refusesRow(t, b[:long], most, api.ErrLarge)
			}
		}
		if len(l) > 0 {
			refusesRow(t, b[:len(b)-1], len(l), api.ErrForm)
			refusesRow(t, b[:len(b)-1], len(l)-1, api.ErrLarge)
		}
	}
}

// P13.1, M1: rows of which none could be there are told by what they say, up to the greatest number.
func TestTakeRowGreat(t *testing.T) {
	for _, n := range []uint64{1000, 1 << 31, 1<<32 + 2, 1 << 62, 1<<63 - 1, 1 << 63, 1<<63 + 2, math.MaxUint64 - 1, math.MaxUint64} {
		for _, behind := range sides() {
			b := join(laidOf(n), behind)
			for _, most := range append(mosts, 2, 999) {
				want := api.ErrForm
				if most < 0 || n > uint64(most) {
					want = api.ErrLarge
				}
				refusesRow(t, b, most, want)
			}
		}
	}
}

// P13.1, M1: a row of no bytes may be where none may have any; it is not where fewer than none may.
func TestTakeRowOfNothing(t *testing.T) {
	takesRow(t, []byte{0}, 0, nil, nil)
	takesRow(t, []byte{0, 0, 1}, 0, nil, []byte{0, 1})
	takesRow(t, []byte{0}, math.MaxInt, nil, nil)
	refusesRow(t, []byte{0}, -1, api.ErrLarge)
	refusesRow(t, []byte{1}, 0, api.ErrLarge)
	refusesRow(t, []byte{1}, 1, api.ErrForm)
	refusesRow(t, []byte{128, 0}, 0, api.ErrForm)
	refusesRow(t, nil, 0, api.ErrForm)
}

// P13.2: what is put is taken, one behind the other, with what is behind.
func TestBack(t *testing.T) {
	s := newSource()
	for i := 0; i < 400; i++ {
		n, k, l, behind := s.next()>>(s.next()%64), int64(s.next())>>(s.next()%64), s.bytes(int(s.next()%300)), s.bytes(int(s.next()%20))
		b := pack.PutRow(pack.PutInt(pack.Put(nil, n), k), l)
		b = join(b, behind)
		got, rest, e := pack.Take(b)
		if got != n || e != api.OK {
			t.Fatalf("Take(%x): %d, %d; wanted %d", b, got, e, n)
		}
		gotInt, rest, e := pack.TakeInt(rest)
		if gotInt != k || e != api.OK {
			t.Fatalf("TakeInt of %x: %d, %d; wanted %d", b, gotInt, e, k)
		}
		takesRow(t, rest, len(l), l, behind)
	}
}

// anyBytes are rows of bytes of all sorts: short, and long numbers, with and without an end.
func anyBytes() [][]byte {
	s := newSource()
	var all [][]byte
	for i := 0; i < 30000; i++ {
		b := s.bytes(int(s.next() % 14))
		for j := range b {
			switch s.next() >> 8 % 8 {
			case 0:
				b[j] = 128
			case 1:
				b[j] = byte(s.next() >> 32 % 3)
			case 2, 3, 4, 5:
				b[j] |= 128
			}
		}
		all = append(all, b)
	}
	return all
}

// P13.2: what is taken, put again, is what was taken of.
func TestTakenPutAgain(t *testing.T) {
	taken := 0
	for _, b := range anyBytes() {
		if n, rest, e := pack.Take(b); e == api.OK {
			taken++
			same(t, "Put of what was taken", join(pack.Put(nil, n), rest), b)
		}
		if n, rest, e := pack.TakeInt(b); e == api.OK {
			same(t, "PutInt of what was taken", join(pack.PutInt(nil, n), rest), b)
		}
		if l, rest, e := pack.TakeRow(b, 100); e == api.OK {
			same(t, "PutRow of what was taken", join(pack.PutRow(nil, l), rest), b)
		}
	}
	if taken < 1000 {
		t.Errorf("only %d were taken", taken)
	}
}

// P13.2: each has bytes of its own, and none's are the beginning of another's.
func TestOwnBytes(t *testing.T) {
	var all []string
	for _, n := range numbers() {
		all = append(all, string(pack.Put(nil, n)))
	}
	var ints []string
	for _, n := range integers() {
		ints = append(ints, string(pack.PutInt(nil, n)))
	}
	different(t, all, len(distinct(numbers())))
	different(t, ints, len(distinct(integers())))
}

func distinct[T uint64 | int64](l []T) []T {
	l = slices.Clone(l)
	slices.Sort(l)
	return slices.Compact(l)
}

func different(t *testing.T, all []string, want int) {
	t.Helper()
	slices.Sort(all)
	all = slices.Compact(all)
	if len(all) != want {
		t.Errorf("%d have %d rows of bytes", want, len(all))
	}
	for i := 1; i < len(all); i++ {
		if a, b := all[i-1], all[i]; len(b) > len(a) && b[:len(a)] == a {
			t.Errorf("%x begins with %x", b, a)
		}
	}
}

// wipe writes over a list and the room behind its end.
func wipe(b []byte) {
	b = b[:cap(b)]
	for i := range b {
		b[i] = 85
	}
}

// P13.1, R4: what is put is new memory: neither b, nor the room behind its end, is written, and nor is the row.
func TestPutMemory(t *testing.T) {
	for _, n := range []int{0, 1, 5, 60, 300} {
		room := bytes.Repeat([]byte{170}, n+500)
		l := bytes.Repeat([]byte{171}, n+500)
		b, row := room[:n], l[:n]
		for _, put := range []func() []byte{
			func() []byte { return pack.Put(b, 0) },
			func() []byte { return pack.Put(b, math.MaxUint64) },
			func() []byte { return pack.PutInt(b, 0) },
			func() []byte { return pack.PutInt(b, -300) },
			func() []byte { return pack.PutRow(b, row) },
			func() []byte { return pack.PutRow(b, nil) },
			func() []byte { return pack.PutRow(nil, row) },
		} {
			out := put()
			want := slices.Clone(out)
			wipe(out)
			same(t, "what was handed in", room, bytes.Repeat([]byte{170}, n+500))
			same(t, "the row handed in", l, bytes.Repeat([]byte{171}, n+500))
			same(t, "once wiped, put again", put(), want)
		}
	}
}

// P13.1, R4: so is what is taken, with the rest: none shares with what was handed in, nor with each other.
func TestTakeMemory(t *testing.T) {
	for _, long := range []int{0, 1, 5, 60, 300} {
		rest := bytes.Repeat([]byte{9}, long)
		for _, ahead := range [][]byte{pack.Put(nil, 0), pack.PutInt(nil, -300), pack.PutRow(nil, bytes.Repeat([]byte{7}, long)), {128, 0}, {200}} {
			whole := join(ahead, rest, bytes.Repeat([]byte{170}, 50))
			kept := slices.Clone(whole)
			b := whole[:len(whole)-50]
			_, one, _ := pack.Take(b)
			_, two, _ := pack.TakeInt(b)
			l, three, _ := pack.TakeRow(b, 400)
			same(t, "what was handed in", whole, kept)
			wipe(one)
			wipe(two)
			left := slices.Clone(three)
			wipe(l)
			same(t, "the rest, once the row is wiped", three, left)
			row, again, _ := pack.TakeRow(b, 400)
			held := slices.Clone(row)
			wipe(again)
			same(t, "the row, once the rest is wiped", row, held)
			same(t, "what was handed in", whole, kept)
		}
	}
}

// P13.1, R4: what was taken stays when what was handed in is changed later.
func TestTakeKeeps(t *testing.T) {
	b := pack.PutRow(nil, []byte("row"))
	b = join(b, []byte("rest"))
	l, rest, _ := pack.TakeRow(b, 3)
	wipe(b)
	same(t, "the row", l, []byte("row"))
	same(t, "the rest", rest, []byte("rest"))
	b = join(pack.Put(nil, 300), []byte("rest"))
	_, one, _ := pack.Take(b)
	_, two, _ := pack.TakeInt(b)
	wipe(b)
	same(t, "the rest", one, []byte("rest"))
	same(t, "the rest", two, []byte("rest"))
}

// P13.1, M1, R3: nil and nothing are the same, and beside an error there is nothing.
func TestNothing(t *testing.T) {
	same(t, "Put", pack.Put(nil, 5), pack.Put([]byte{}, 5))
	same(t, "PutInt", pack.PutInt(nil, -5), pack.PutInt([]byte{}, -5))
	same(t, "PutRow", pack.PutRow(nil, nil), pack.PutRow([]byte{}, []byte{}))
	refuses(t, nil)
	refuses(t, []byte{})
}
