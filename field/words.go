package field

import (
	"math/bits"

	"keyward/api"
)

// The words of a number that is being worked on stand one by one, not in an array: the compiler keeps them in
// registers then, and Mul takes a third of the time.

// settle is CANON of the number of those words and over·2^256, while over is at most 38.
func settle(a, b, c, d, over uint64) api.Fe {
	// 2^255 counts as 19. What that leaves is less than P + 1500, so taking P away once is enough.
	top := over<<1 | d>>63
	d &= 1<<63 - 1
	a, carry := bits.Add64(a, top*19, 0)
	b, carry = bits.Add64(b, 0, carry)
	c, carry = bits.Add64(c, 0, carry)
	x := api.Fe{a, b, c, d + carry}
	if rest, under := minus(x, order); !under {
		return rest
	}
	return x
}

// minus is x - y by 2^256; true: y is the greater one.
func minus(x, y api.Fe) (api.Fe, bool) {
	a, borrow := bits.Sub64(x[0], y[0], 0)
	b, borrow := bits.Sub64(x[1], y[1], borrow)
	c, borrow := bits.Sub64(x[2], y[2], borrow)
	d, borrow := bits.Sub64(x[3], y[3], borrow)
	return api.Fe{a, b, c, d}, borrow == 1
}

// addTimes is the number of the words a to d, and x·n: five words, the least first.
func addTimes(a, b, c, d uint64, x api.Fe, n uint64) (uint64, uint64, uint64, uint64, uint64) {
	over, a := mulAdd(x[0], n, a, 0)
	over, b = mulAdd(x[1], n, b, over)
	over, c = mulAdd(x[2], n, c, over)
	over, d = mulAdd(x[3], n, d, over)
	return a, b, c, d, over
}

// mulAdd is m·n + a + b, the upper word first; the greatest of those is 2^128 - 1, so none runs over.
func mulAdd(m, n, a, b uint64) (uint64, uint64) {
	high, low := bits.Mul64(m, n)
	low, carry := bits.Add64(low, a, 0)
	high += carry
	low, carry = bits.Add64(low, b, 0)
	return high + carry, low
}
