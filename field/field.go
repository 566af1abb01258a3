// Package field is layer 1: see shared/doc/01-field.md.
package field

import (
	"math/bits"

	"keyward/api"
)

// With P = 2^255 - 19: the order, and the exponents that the layer's own powers go by.
var (
	order      = api.Fe{0xffffffffffffffed, 0xffffffffffffffff, 0xffffffffffffffff, 0x7fffffffffffffff} // P
	lessTwo    = api.Fe{0xffffffffffffffeb, 0xffffffffffffffff, 0xffffffffffffffff, 0x7fffffffffffffff} // P - 2
	rootPower  = api.Fe{0xfffffffffffffffd, 0xffffffffffffffff, 0xffffffffffffffff, 0x0fffffffffffffff} // (P - 5) / 8
	minusPower = api.Fe{0xfffffffffffffffb, 0xffffffffffffffff, 0xffffffffffffffff, 0x1fffffffffffffff} // (P - 1) / 4
)

// Of is a number of 32 bytes, the least first, without the highest bit; Bytes the way back.
func Of(b api.Key) api.Fe {
	b[31] &= 0x7f
	var x api.Fe
	for i, v := range b {
		x[i/8] |= uint64(v) << (i % 8 * 8)
	}
	return Canon(x)
}

func Bytes(x api.Fe) api.Key {
	x = Canon(x)
	var b api.Key
	for i := range b {
		b[i] = byte(x[i/8] >> (i % 8 * 8))
	}
	return b
}

// Small is a small number, Canon the least one that counts as much.
func Small(n uint32) api.Fe { return api.Fe{uint64(n)} }

func Canon(x api.Fe) api.Fe { return settle(x[0], x[1], x[2], x[3], 0) }

// Add, Sub, Mul and Neg reckon; Pow is one by itself as often as another one says, Inv what makes 1 with it.
func Add(x, y api.Fe) api.Fe {
	a, carry := bits.Add64(x[0], y[0], 0)
	b, carry := bits.Add64(x[1], y[1], carry)
	c, carry := bits.Add64(x[2], y[2], carry)
	d, carry := bits.Add64(x[3], y[3], carry)
	return settle(a, b, c, d, carry)
}

func Sub(x, y api.Fe) api.Fe {
	// P less y counts as -y, and is never below 0.
	less, _ := minus(order, Canon(y))
	return Add(x, less)
}

func Mul(x, y api.Fe) api.Fe {
	w0, a, b, c, d := addTimes(0, 0, 0, 0, x, y[0])
	w1, a, b, c, d := addTimes(a, b, c, d, x, y[1])
	w2, a, b, c, d := addTimes(a, b, c, d, x, y[2])
	w3, a, b, c, d := addTimes(a, b, c, d, x, y[3])
	// The upper half counts 38 times: 2^256 is 2·P + 38.
	return settle(addTimes(w0, w1, w2, w3, api.Fe{a, b, c, d}, 38))
}

func Neg(x api.Fe) api.Fe { return Sub(Small(0), x) }

func Pow(x, n api.Fe) api.Fe {
	out := Small(1)
	for i := 255; i >= 0; i-- {
		out = Mul(out, out)
		if n[i/64]>>(i%64)&1 == 1 {
			out = Mul(out, x)
		}
	}
	return out
}

func Inv(x api.Fe) api.Fe { return Pow(x, lessTwo) }

// Root is one whose square is x by y; false: there is none.
func Root(x, y api.Fe) (api.Fe, bool) {
	r := nearRoot(x, y)
	made := Mul(y, Mul(r, r))
	if made == Canon(x) {
		return even(r), true
	}
	if made == Neg(x) {
		// 2^((P - 1) / 4) is a root of -1: it turns the sign that is wrong.
		return even(Mul(r, Pow(Small(2), minusPower))), true
	}
	return api.Fe{}, false
}

// nearRoot is a root of x by y, or one but for a root of -1, wherever there is a root.
func nearRoot(x, y api.Fe) api.Fe {
	cube := Mul(y, Mul(y, y))
	seventh := Mul(y, Mul(cube, cube))
	return Mul(Mul(x, cube), Pow(Mul(x, seventh), rootPower))
}

// even is x or Neg of it, x being CANON: one of the two is even, since P is odd.
func even(x api.Fe) api.Fe {
	if x[0]&1 == 1 {
		return Neg(x)
	}
	return x
}
