package sha

import "math/bits"

// block64 is the length of a BLOCK of words of 64 bits.
const block64 = 128

// mixBlocks64 is the state behind every whole BLOCK of b.
func mixBlocks64(state [8]uint64, b []byte) [8]uint64 {
	for ; len(b) >= block64; b = b[block64:] {
		state = mix64(state, spread64(b))
	}
	return state
}

// spread64 is the words of all rounds, made of the BLOCK that b begins with.
func spread64(b []byte) [80]uint64 {
	var w [80]uint64
	for i, v := range b[:block64] {
		w[i/8] = w[i/8]<<8 | uint64(v)
	}
	for t := 16; t < len(w); t++ {
		s1 := turned64(w[t-2], 19, 61) ^ w[t-2]>>6
		s0 := turned64(w[t-15], 1, 8) ^ w[t-15]>>7
		w[t] = s1 + w[t-7] + s0 + w[t-16]
	}
	return w
}

// mix64 is the state behind one more BLOCK; first and second are the chapter's T and U.
func mix64(state [8]uint64, w [80]uint64) [8]uint64 {
	a, b, c, d, e, f, g, h := state[0], state[1], state[2], state[3], state[4], state[5], state[6], state[7]
	for t, word := range w {
		sum1 := turned64(e, 14, 18) ^ bits.RotateLeft64(e, -41)
		first := h + sum1 + (e&f ^ ^e&g) + rounds[t] + word
		sum0 := turned64(a, 28, 34) ^ bits.RotateLeft64(a, -39)
		second := sum0 + (a&b ^ a&c ^ b&c)
		h, g, f, e, d, c, b, a = g, f, e, d+first, c, b, a, first+second
	}
	for i, word := range [8]uint64{a, b, c, d, e, f, g, h} {
		state[i] += word
	}
	return state
}

// turned64 is x turned right by m, and by n, both by xor: each of the digest's four mixtures begins so.
func turned64(x uint64, m, n int) uint64 {
	return bits.RotateLeft64(x, -m) ^ bits.RotateLeft64(x, -n)
}
