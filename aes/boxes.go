package aes

import "math/bits"

// double is 2·b: x⁸ + x⁴ + x³ + x + 1 takes away the bit that is shifted out, and the four others of it are 1b.
func double(b byte) byte {
	return b<<1 ^ (b>>7)*0x1b
}

func triple(b byte) byte {
	return double(b) ^ b
}

// boxes are what each byte becomes, and the way back. They are made for each cipher: nothing is kept.
type boxes struct {
	there, back [256]byte
}

func makeBoxes() boxes {
	var x boxes
	x.put(0, 0)
	powers := powersOfThree()
	for k := range powers {
		// The 255th power is 1, as the 0th is: the k-th and the (255-k)-th make 1.
		x.put(powers[k], powers[(len(powers)-k)%len(powers)])
	}
	return x
}

// powersOfThree are all bytes but 0, each once.
func powersOfThree() [255]byte {
	var out [255]byte
	power := byte(1)
	for k := range out {
		out[k] = power
		power = triple(power)
	}
	return out
}

// put lays b into both boxes; i is the byte whose product with b is 1.
func (x *boxes) put(b, i byte) {
	c := i ^ 0x63
	for n := 1; n <= 4; n++ {
		c ^= bits.RotateLeft8(i, n)
	}
	x.there[b] = c
	x.back[c] = b
}
