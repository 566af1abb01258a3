package scalar

import (
	"math/bits"

	"keyward/api"
)

// Secret numbers are reckoned with here: no branch and no place hangs on a bit, masks choose instead.

// short is a number below 2^256, long one below 2^512; the least word is the first.
type (
	short [4]uint64
	long  [8]uint64
)

var order = short{0x5812631a5cf5d3ed, 0x14def9dea2f79cd6, 0, 1 << 60} // 2^252 + 27742317777372353535851937790883648493

func read(k api.Key) short {
	var n short
	for i, v := range k {
		n[i/8] |= uint64(v) << (i % 8 * 8)
	}
	return n
}

func (n short) bytes() api.Key {
	var k api.Key
	for i := range k {
		k[i] = byte(n[i/8] >> (i % 8 * 8))
	}
	return k
}

// join is low + high·2^256.
func join(low, high short) long {
	var n long
	copy(n[:], low[:])
	copy(n[len(low):], high[:])
	return n
}

// shift makes 2·n + bit of the number n of those words, without what runs over.
func shift(words []uint64, bit uint64) {
	for i, w := range words {
		words[i] = w<<1 | bit
		bit = w >> 63
	}
}

// minus is n - other by 2^256, and 1 where other is the greater one, else 0.
func (n short) minus(other short) (short, uint64) {
	var under uint64
	for i := range n {
		n[i], under = bits.Sub64(n[i], other[i], under)
	}
	return n, under
}

// lessOrder is n less the order, or n itself if it is below the order.
func (n short) lessOrder() short {
	less, under := n.minus(order)
	keep := -under
	for i := range n {
		n[i] = n[i]&keep | less[i]&^keep
	}
	return n
}

// rest is what is left of n by the order.
func (n long) rest() short {
	// The three upper words come in at once: their number is below 2^192, and so below the order.
	const lower = len(n) - 3
	var left short
	copy(left[:], n[lower:])
	for i := 64*lower - 1; i >= 0; i-- {
		// Twice what is below the order, and 1, is below twice the order: taking it away once is enough.
		shift(left[:], n[i/64]>>(i%64)&1)
		left = left.lessOrder()
	}
	return left
}

// addTimes is n + a·b, by 2^512.
func (n long) addTimes(a, b short) long {
	shifted := join(a, short{})
	for i := range 64 * len(b) {
		mask := -(b[i/64] >> (i % 64) & 1)
		var carry uint64
		for j := range n {
			n[j], carry = bits.Add64(n[j], shifted[j]&mask, carry)
		}
		shift(shifted[:], 0)
	}
	return n
}
