package vec

import (
	"math/bits"

	"vidimus/api"
)

const (
	limbBits  = 64
	mostLimbs = api.MaxWidth / limbBits
)

// number is what any vector's bits tell, the lowest limb first. Of an array each operation has a copy, so none can write into what was handed in.
type number [mostLimbs]uint64

// numberOf takes a right vector.
func numberOf(a api.Vec) number {
	var n number
	copy(n[:], a.L)
	return n
}

// vecOf leaves out the bits from w on: so all is reckoned by 2 to the power of w.
func vecOf(w int, n number) api.Vec {
	l := make([]uint64, limbsFor(w))
	for i := range len(l) {
		l[i] = n[i] & limbMask(w, i)
	}
	return api.Vec{W: w, L: l}
}

func limbsFor(w int) int { return (w + limbBits - 1) / limbBits }

// limbMask has 1 where limb i has bits of a vector of width w. (1 shifted by 64 places is 0, and less 1 all ones.)
func limbMask(w, i int) uint64 {
	return 1<<min(max(w-i*limbBits, 0), limbBits) - 1
}

func mask(w int) number {
	var out number
	for i := range mostLimbs {
		out[i] = limbMask(w, i)
	}
	return out
}

// limb is 0 where there is none, which is what comes in when a number is shifted.
func (n number) limb(i int) uint64 {
	if i < 0 || i >= mostLimbs {
		return 0
	}
	return n[i]
}

func (n number) bit(i int) bool { return n.limb(i/limbBits)>>(i%limbBits)&1 == 1 }

func (n number) with(i int) number {
	n[i/limbBits] |= 1 << (i % limbBits)
	return n
}

func not(a number) number {
	for i := range mostLimbs {
		a[i] = ^a[i]
	}
	return a
}

func and(a, b number) number {
	for i := range mostLimbs {
		a[i] &= b[i]
	}
	return a
}

func or(a, b number) number {
	for i := range mostLimbs {
		a[i] |= b[i]
	}
	return a
}

func xor(a, b number) number {
	for i := range mostLimbs {
		a[i] ^= b[i]
	}
	return a
}

func plus(a, b number) number {
	carry := uint64(0)
	for i := range mostLimbs {
		a[i], carry = bits.Add64(a[i], b[i], carry)
	}
	return a
}

func minus(a, b number) number {
	borrow := uint64(0)
	for i := range mostLimbs {
		a[i], borrow = bits.Sub64(a[i], b[i], borrow)
	}
	return a
}

// less looks at nothing but the borrow that a difference leaves.
func less(a, b number) bool {
	borrow := uint64(0)
	for i := range mostLimbs {
		_, borrow = bits.Sub64(a[i], b[i], borrow)
	}
	return borrow == 1
}

func times(a, b number) number {
	var out number
	for i := range mostLimbs {
		for j := range mostLimbs - i {
			high, low := bits.Mul64(a[i], b[j])
			out = plus(out, up(number{low, high}, (i+j)*limbBits))
		}
	}
	return out
}

// divide is the quotient and what is left, bit by bit, the highest first. Where b is 0 it goes into all, and nothing is taken away: the quotient has all ones, and a is left.
func divide(a, b number) (quotient, rest number) {
	for k := range api.MaxWidth {
		i := api.MaxWidth - 1 - k
		// No bit is lost: what is left has no more bits than were taken from a.
		rest = up(rest, 1)
		if a.bit(i) {
			rest = rest.with(0)
		}
		if !less(rest, b) {
			rest = minus(rest, b)
			quotient = quotient.with(i)
		}
	}
	return quotient, rest
}

func up(a number, places int) number {
	var out number
	whole, part := places/limbBits, places%limbBits
	for i := range mostLimbs {
		out[i] = a.limb(i-whole)<<part | a.limb(i-whole-1)>>(limbBits-part)
	}
	return out
}

func down(a number, places int) number {
	var out number
	whole, part := places/limbBits, places%limbBits
	for i := range mostLimbs {
		out[i] = a.limb(i+whole)>>part | a.limb(i+whole+1)<<(limbBits-part)
	}
	return out
}

// places is the number, but never more than w: a shift by more does what a shift by w does.
func places(n number, w int) int {
	if less(n, number{uint64(w)}) {
		return int(n[0])
	}
	return w
}

func isOdd(n number) bool {
	count := 0
	for i := range mostLimbs {
		count += bits.OnesCount64(n[i])
	}
	return count%2 == 1
}
