package crc_test

import (
	"bytes"
	"hash/crc32"
	"math"
	"slices"
	"testing"

	"ratchet/api"
	"ratchet/crc"
)

// stepped is a step as the Words say it: each of the eight times, bit by bit.
func stepped(reg uint32, c byte) uint32 {
	reg ^= uint32(c)
	for i := 0; i < 8; i++ {
		taken := reg % 2
		reg /= 2
		if taken == 1 {
			reg ^= 0xEDB88320
		}
	}
	return reg
}

// summed is a checksum as the Words say it.
func summed(b []byte) uint32 {
	reg := uint32(math.MaxUint32)
	for _, c := range b {
		reg = stepped(reg, c)
	}
	return math.MaxUint32 - reg
}

// source makes numbers that look like any, the same in every run.
type source uint64

func (s *source) next() uint64 {
	*s ^= *s << 13
	*s ^= *s >> 7
	*s ^= *s << 17
	return uint64(*s)
}

func (s *source) bytes(n int) []byte {
	b := make([]byte, n)
	for i := range b {
		b[i] = byte(s.next() >> 32)
	}
	return b
}

// lists are bytes of all lengths up to some, and some longer: all 0, all 255, rising, and any.
func lists() [][]byte {
	s := source(88172645463325252)
	all := [][]byte{nil, {}, []byte("123456789"), []byte("ratchet")}
	for n := 0; n <= 70; n++ {
		rising := make([]byte, n)
		for i := range rising {
			rising[i] = byte(i)
		}
		all = append(all, make([]byte, n), bytes.Repeat([]byte{255}, n), rising, s.bytes(n))
	}
	for _, n := range []int{255, 256, 257, 1984, 4096, 65535, 65536} {
		all = append(all, s.bytes(n))
	}
	return all
}

var sums = []uint32{0, 1, 2, 3, 255, 256, 1<<31 - 1, 1 << 31, 1<<31 + 1, 3988292384, 3421780262, math.MaxUint32 - 1, math.MaxUint32}

func cut(t *testing.T, b []byte) []byte {
	t.Helper()
	out, e := crc.Cut(b)
	if e != api.OK {
		t.Fatalf("Cut(%x): %d", b, e)
	}
	return out
}

func refused(t *testing.T, b []byte, want api.Errno) {
	t.Helper()
	if out, e := crc.Cut(b); e != want || len(out) != 0 {
		t.Fatalf("Cut(%x): %x, %d; wanted nothing, %d", b, out, e, want)
	}
}

// P12.1, L1: the table holds the steps of 0 with all bytes.
func TestTable(t *testing.T) {
	table := crc.Table()
	for c, got := range table {
		if want := stepped(0, byte(c)); got != want {
			t.Errorf("Table()[%d]: %d, wanted %d", c, got, want)
		}
	}
	if table != *crc32.IEEETable {
		t.Error("Table() is not the one of this checksum")
	}
	if table[0] != 0 || table[128] != 3988292384 || table[255] != 0x2D02EF8D {
		t.Errorf("Table(): %d, %d, %d", table[0], table[128], table[255])
	}
}

// P12.1, L1, R5: a table that was changed changes nothing.
func TestTableIsNew(t *testing.T) {
	table := crc.Table()
	want := table
	for i := range table {
		table[i] = 7
	}
	if crc.Table() != want {
		t.Error("Table() was changed from outside")
	}
	if got := crc.Of([]byte("123456789")); got != 3421780262 {
		t.Errorf("Of, once a table was changed: %d", got)
	}
}

// P12.1, L1: checksums that are known.
func TestOfKnown(t *testing.T) {
	for _, c := range []struct {
		b    []byte
		want uint32
	}{
		{nil, 0},
		{[]byte{}, 0},
		{[]byte{0}, 0xD202EF8D},
		{[]byte{255}, 0xFF000000},
		{[]byte{255, 255, 255, 255}, 0xFFFFFFFF},
		{[]byte{0, 0, 0, 0}, 0x2144DF1C},
		{[]byte("a"), 0xE8B7BE43},
		{[]byte("123456789"), 3421780262},
	} {
		if got := crc.Of(c.b); got != c.want {
			t.Errorf("Of(%x): %d, wanted %d", c.b, got, c.want)
		}
	}
}

// P12.1, L1: the checksum is made by a step with each byte, from all bits on, and turned.
func TestOf(t *testing.T) {
	for _, b := range lists() {
		if got, want := crc.Of(b), summed(b); got != want || got != crc32.ChecksumIEEE(b) {
			t.Fatalf("Of(%x): %d, wanted %d", b, got, want)
		}
	}
	for c := 0; c < 256; c++ {
		for d := 0; d < 256; d++ {
			b := []byte{byte(c), byte(d)}
			if got, want := crc.Of(b), summed(b); got != want {
				t.Fatalf("Of(%x): %d, wanted %d", b, got, want)
			}
		}
	}
}

// P12.1, L1: gone on from any sum at all, whether it is one of bytes or not.
func TestOn(t *testing.T) {
	s := source(88172645463325252)
	from := slices.Clone(sums)
	for i := 0; i < 20; i++ {
		from = append(from, uint32(s.next()>>16))
	}
	for _, b := range lists() {
		for _, sum := range from {
			reg := math.MaxUint32 - sum
			for _, c := range b {
				reg = stepped(reg, c)
			}
			if got, want := crc.On(sum, b), math.MaxUint32-reg; got != want {
				t.Fatalf("On(%d, %x): %d, wanted %d", sum, b, got, want)
			}
		}
	}
	for _, sum := range from {
		if crc.On(sum, nil) != sum || crc.On(sum, []byte{}) != sum {
			t.Errorf("On(%d, nothing) is not the same", sum)
		}
	}
}

// P12.1, L2: behind the bytes stands the checksum, the lowest byte first.
func TestPut(t *testing.T) {
	for _, b := range lists() {
		got := crc.Put(b)
		if len(got) != len(b)+4 || !bytes.Equal(got[:len(b)], b) {
			t.Fatalf("Put(%x): %x", b, got)
		}
		sum := summed(b)
		for i, c := range got[len(b):] {
			if c != byte(sum>>(8*i)) {
				t.Fatalf("Put(%x): %x behind, of %08x", b, got[len(b):], sum)
			}
		}
	}
	if got := crc.Put([]byte("123456789")); string(got[9:]) != "\x26\x39\xf4\xcb" {
		t.Errorf("Put: %x behind", got[9:])
	}
}

// P12.1, L2: what is put is cut, down to none at all.
func TestCut(t *testing.T) {
	for _, b := range lists() {
		if got := cut(t, crc.Put(b)); !bytes.Equal(got, b) {
			t.Fatalf("Cut(Put(%x)): %x", b, got)
		}
		twice := crc.Put(crc.Put(b))
		if got := cut(t, cut(t, twice)); !bytes.Equal(got, b) {
			t.Fatalf("Cut(Cut(Put(Put(%x)))): %x", b, got)
		}
	}
	if got := cut(t, []byte{0, 0, 0, 0}); len(got) != 0 {
		t.Errorf("Cut of four noughts: %x", got)
	}
}

// P12.1, L2: fewer than four bytes are of no form, whatever they are.
func TestCutShort(t *testing.T) {
	refused(t, nil, api.ErrForm)
	refused(t, []byte{}, api.ErrForm)
	for c := 0; c < 256; c++ {
		for n := 1; n < 4; n++ {
			refused(t, bytes.Repeat([]byte{byte(c)}, n), api.ErrForm)
		}
	}
	whole := crc.Put([]byte("whole"))
	for n := 1; n < 4; n++ {
		refused(t, whole[:n], api.ErrForm)
		refused(t, whole[len(whole)-n:], api.ErrForm)
	}
}

// P12.1, L2: what is behind and is no checksum of what is ahead is refused.
func TestCutWrong(t *testing.T) {
	for _, b := range lists() {
		sum := summed(b)
		for _, other := range append(sums, sum+1, sum-1, ^sum, sum<<8|sum>>24, sum>>8|sum<<24) {
			put := append(slices.Clone(b), byte(other), byte(other>>8), byte(other>>16), byte(other>>24))
			if other != sum {
				refused(t, put, api.ErrSum)
			}
		}
		high := append(slices.Clone(b), byte(sum>>24), byte(sum>>16), byte(sum>>8), byte(sum))
		if high[len(b)] != high[len(b)+3] || high[len(b)+1] != high[len(b)+2] {
			refused(t, high, api.ErrSum)
		}
	}
	refused(t, []byte{0, 0, 0, 1}, api.ErrSum)
	refused(t, []byte{1, 0, 0, 0}, api.ErrSum)
	refused(t, []byte{255, 255, 255, 254}, api.ErrSum)
}

// P12.1, R3: beside an error there is nothing, of bytes that lack an end too.
func TestCutLacking(t *testing.T) {
	whole := crc.Put([]byte("a whole one, of which an end is lost"))
	for n := 4; n < len(whole); n++ {
		refused(t, whole[:n], api.ErrSum)
		refused(t, whole[len(whole)-n:], api.ErrSum)
	}
}

// P12.1, R4: what is handed in stays, with the room behind its end, and what comes out is new memory.
func TestMemory(t *testing.T) {
	for _, n := range []int{0, 1, 4, 5, 60, 64, 300} {
		room := bytes.Repeat([]byte{170}, n+50)
		same := slices.Clone(room)
		b := room[:n]
		crc.Of(b)
		crc.On(9, b)
		put := crc.Put(b)
		if !bytes.Equal(room, same) {
			t.Fatalf("%d bytes: those handed in were changed", n)
		}
		wipe(put)
		if !bytes.Equal(room, same) {
			t.Fatalf("%d bytes: what is put shares memory", n)
		}
		cutMemory(t, n)
	}
}

func wipe(b []byte) {
	b = b[:cap(b)]
	for i := range b {
		b[i] = 85
	}
}

func cutMemory(t *testing.T, n int) {
	t.Helper()
	room := append(crc.Put(bytes.Repeat([]byte{170}, n)), bytes.Repeat([]byte{170}, 50)...)
	same := slices.Clone(room)
	out := cut(t, room[:n+4])
	if !bytes.Equal(room, same) {
		t.Fatalf("%d bytes: those cut were changed", n)
	}
	wipe(out)
	if !bytes.Equal(room, same) {
		t.Fatalf("%d bytes: what is cut shares memory", n)
	}
	room[n] ^= 1
	same[n] ^= 1
	refused(t, room[:n+4], api.ErrSum)
	if !bytes.Equal(room, same) {
		t.Fatalf("%d bytes: those refused were changed", n)
	}
}

// P12.2: a checksum gone on is that of both, one behind the other, wherever they meet.
func TestGoneOn(t *testing.T) {
	for _, b := range lists() {
		want := crc.Of(b)
		step := 1 + len(b)/100
		for i := 0; i <= len(b); i += step {
			if got := crc.On(crc.Of(b[:i]), b[i:]); got != want {
				t.Fatalf("%x, gone on at %d: %d, wanted %d", b, i, got, want)
			}
		}
		if got := crc.On(0, b); got != want {
			t.Fatalf("On(0, %x): %d, wanted %d", b, got, want)
		}
	}
}

// P12.2: by many parts too, and from sums that are none of bytes.
func TestGoneOnByParts(t *testing.T) {
	s := source(88172645463325252)
	for i := 0; i < 300; i++ {
		sum := sums[i%len(sums)]
		var whole []byte
		parts := sum
		for j := 0; j < 6; j++ {
			b := s.bytes(int(s.next() % 20))
			whole = append(whole, b...)
			parts = crc.On(parts, b)
		}
		if got := crc.On(sum, whole); got != parts {
			t.Fatalf("On(%d, %x): %d, by parts %d", sum, whole, got, parts)
		}
	}
}

// change turns bits in a row, the lowest of a byte first, as they are taken off: bit i of the pattern is the one at from + i.
func change(b []byte, from int, pattern uint32) []byte {
	out := slices.Clone(b)
	for i := 0; i < 32; i++ {
		if pattern>>i&1 == 1 {
			out[(from+i)/8] ^= 1 << ((from + i) % 8)
		}
	}
	return out
}

// patterns are rows of up to 32 bits of which the first and the last are turned, at each length.
func patterns() []uint32 {
	s := source(88172645463325252)
	all := []uint32{1, 0xEDB88320 | 1, 0xDB710641, 0x04C11DB7, math.MaxUint32}
	for n := 1; n < 32; n++ {
		ends := uint32(1)<<n | 1
		inside := ends - 2
		all = append(all, ends, ends|inside)
		for i := 0; i < 6; i++ {
			all = append(all, ends|uint32(s.next()>>20)&inside)
		}
	}
	return all
}

// P12.3: bits that are changed within 32 in a row are told, at each place, within what is ahead, within the checksum and over both.
func TestBurst(t *testing.T) {
	s := source(88172645463325252)
	for _, b := range [][]byte{nil, {0}, {255}, []byte("123456789"), s.bytes(40)} {
		put := crc.Put(b)
		for from := 0; from < 8*len(put); from++ {
			for _, p := range patterns() {
				if left := 8*len(put) - from; left >= 32 || p < 1<<left {
					refused(t, change(put, from, p), api.ErrSum)
				}
			}
		}
	}
}

// P12.3: so is every change of bytes side by side, up to four, at ends and in the middle of long ones.
func TestBurstOfBytes(t *testing.T) {
	s := source(88172645463325252)
	put := crc.Put(s.bytes(2000))
	for _, from := range []int{0, 1, 999, 1995, 1997, 1998, 1999, 2000} {
		for i := 0; i < 200; i++ {
			p := uint32(s.next() >> 8)
			if i < 32 {
				p = 1 << i
			}
			if i >= 32 && i < 64 {
				p >>= i - 32
			}
			if p != 0 {
				refused(t, change(put, 8*from, p), api.ErrSum)
			}
		}
	}
}

// P12.3: each change of up to 12 bits in a row, and each of a single byte.
func TestBurstAll(t *testing.T) {
	put := crc.Put([]byte("all of them"))
	for _, from := range []int{0, 3, 8 * 11, 8*11 - 6, 8*15 - 12} {
		for p := uint32(1); p < 1<<12; p++ {
			refused(t, change(put, from, p), api.ErrSum)
		}
	}
	for i := range put {
		for c := 1; c < 256; c++ {
			refused(t, change(put, 8*i, uint32(c)), api.ErrSum)
		}
	}
}
