// Package nat is layer 1: see shared/doc/01-nat.md.
package nat

import (
	"cmp"
	"iter"
	"math/bits"

	"ratchet/api"
)

// Right: is it right?
func Right(a api.Nat) bool {
	return len(a) == 0 || a[len(a)-1] != 0
}

// Of: a small number.
func Of(n uint64) api.Nat {
	if n == 0 {
		return nil
	}
	return api.Nat{n}
}

// Small: a number that is small.
func Small(a api.Nat) (uint64, bool) {
	if len(a) > 1 {
		return 0, false
	}
	return limb(a, 0), true
}

// Cmp: which is greater?
func Cmp(a, b api.Nat) int {
	order := 0
	for x, y := range pairs(a, b) {
		if x != y { // a higher place outweighs all that are below it
			order = cmp.Compare(x, y)
		}
	}
	return order
}

// Add: a and b.
func Add(a, b api.Nat) api.Nat {
	sum := make(api.Nat, 0, max(len(a), len(b))+1)
	carry := uint64(0)
	for x, y := range pairs(a, b) {
		var low uint64
		low, carry = bits.Add64(x, y, carry)
		sum = append(sum, low)
	}
	if carry != 0 {
		sum = append(sum, carry)
	}
	return sum
}

// Sub: a less b.
func Sub(a, b api.Nat) (api.Nat, api.Errno) {
	rest := make(api.Nat, 0, max(len(a), len(b)))
	borrow := uint64(0)
	for x, y := range pairs(a, b) {
		var low uint64
		low, borrow = bits.Sub64(x, y, borrow)
		rest = append(rest, low)
	}
	if borrow != 0 { // what is owed behind the last limb shows that b is greater
		return nil, api.ErrRange
	}
	return trim(rest), api.OK
}

// Mul: a times b.
func Mul(a, b api.Nat) api.Nat {
	product := make(api.Nat, len(a)+len(b))
	for i, x := range a {
		addTimes(product[i:], b, x)
	}
	return trim(product)
}

// Bits: how many binary figures.
func Bits(a api.Nat) int {
	if len(a) == 0 {
		return 0
	}
	top := len(a) - 1
	return 64*top + bits.Len64(a[top])
}

// pairs tells the limbs of both place by place, from the lowest to the last of the longer one: sums, differences and comparisons then need not care which one is longer.
func pairs(a, b api.Nat) iter.Seq2[uint64, uint64] {
	return func(yield func(uint64, uint64) bool) {
		for i := range max(len(a), len(b)) {
			if !yield(limb(a, i), limb(b, i)) {
				return
			}
		}
	}
}

// limb tells 0 behind the end, since a number goes on with noughts there.
func limb(a api.Nat, i int) uint64 {
	if i < len(a) {
		return a[i]
	}
	return 0
}

// addTimes adds b times x to sum in place; sum has a limb more than b at least, and the one at b's end is still 0, so that the last carry is laid there.
func addTimes(sum, b api.Nat, x uint64) {
	carry := uint64(0)
	for j, y := range b {
		high, low := bits.Mul64(x, y)
		low, more := bits.Add64(low, sum[j], 0)
		low, again := bits.Add64(low, carry, 0)
		// (2^64 - 1)^2 and twice 2^64 - 1 are 2^128 - 1: the high half can't go round.
		sum[j], carry = low, high+more+again
	}
	sum[len(b)] = carry
}

// trim takes noughts off the end, for only so is a number right.
func trim(a api.Nat) api.Nat {
	for len(a) > 0 && a[len(a)-1] == 0 {
		a = a[:len(a)-1]
	}
	return a
}
