package sha

import "math/bits"

// block32 is the length of a BLOCK of words of 32 bits.
const block32 = 64

// mixBlocks32 is the state behind every whole BLOCK of b.
func mixBlocks32(state [8]uint32, b []byte) [8]uint32 {
	for ; len(b) >= block32; b = b[block32:] {
		state = mix32(state, spread32(b))
	}
	return state
}

// spread32 is the words of all rounds, made of the BLOCK that b begins with.
func spread32(b []byte) [64]uint32 {
	var w [64]uint32
	for i, v := range b[:block32] {
		w[i/4] = w[i/4]<<8 | uint32(v)
	}
	for t := 16; t < len(w); t++ {
		s1 := turned32(w[t-2], 17, 19) ^ w[t-2]>>10
		s0 := turned32(w[t-15], 7, 18) ^ w[t-15]>>3
		w[t] = s1 + w[t-7] + s0 + w[t-16]
	}
	return w
}

// mix32 is the state behind one more BLOCK; first and second are the chapter's T and U.
func mix32(state [8]uint32, w [64]uint32) [8]uint32 {
	a, b, c, d, e, f, g, h := state[0], state[1], state[2], state[3], state[4], state[5], state[6], state[7]
	for t, word := range w {
		sum1 := turned32(e, 6, 11) ^ bits.RotateLeft32(e, -25)
		first := h + sum1 + (e&f ^ ^e&g) + uint32(rounds[t]>>32) + word
		sum0 := turned32(a, 2, 13) ^ bits.RotateLeft32(a, -22)
		second := sum0 + (a&b ^ a&c ^ b&c)
		h, g, f, e, d, c, b, a = g, f, e, d+first, c, b, a, first+second
	}
	for i, word := range [8]uint32{a, b, c, d, e, f, g, h} {
		state[i] += word
	}
	return state
}

// turned32 is x turned right by m, and by n, both by xor: each of the digest's four mixtures begins so.
func turned32(x uint32, m, n int) uint32 {
	return bits.RotateLeft32(x, -m) ^ bits.RotateLeft32(x, -n)
}
