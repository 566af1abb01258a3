package aes

import "keyward/api"

const (
	rounds   = 14
	keyWords = 8
	words    = 4 * (rounds + 1)
)

// word is a column of a block.
type word [4]byte

type block [16]byte

// cipher is all that a key makes.
type cipher struct {
	boxes
	keys [rounds + 1]block
}

func makeCipher(key api.Key) *cipher {
	c := cipher{boxes: makeBoxes()}
	w := c.schedule(key)
	for i := range w {
		copy(c.keys[i/4][4*(i%4):], w[i][:])
	}
	return &c
}

func (x *boxes) schedule(key api.Key) [words]word {
	var w [words]word
	for i := range keyWords {
		copy(w[i][:], key[4*i:])
	}
	for i := keyWords; i < words; i++ {
		t := w[i-1]
		switch i % keyWords {
		case 0:
			t = x.boxWord(word{t[1], t[2], t[3], t[0]})
			t[0] ^= 1 << (i/keyWords - 1)
		case 4:
			t = x.boxWord(t)
		}
		for k := range t {
			w[i][k] = w[i-keyWords][k] ^ t[k]
		}
	}
	return w
}

func (x *boxes) boxWord(w word) word {
	for k := range w {
		w[k] = x.there[w[k]]
	}
	return w
}

func (x *boxes) box(b block) block {
	for i := range b {
		b[i] = x.there[b[i]]
	}
	return b
}

func (x *boxes) unbox(b block) block {
	for i := range b {
		b[i] = x.back[b[i]]
	}
	return b
}

func (c *cipher) hide(b block) block {
	b = b.xor(c.keys[0])
	for r := 1; r <= rounds; r++ {
		b = c.box(b).turn(1)
		if r < rounds {
			b = b.mix()
		}
		b = b.xor(c.keys[r])
	}
	return b
}

// show takes back what hide did, the last first.
func (c *cipher) show(b block) block {
	for r := rounds; r >= 1; r-- {
		b = b.xor(c.keys[r])
		if r < rounds {
			b = b.unmix()
		}
		b = c.unbox(b.turn(3))
	}
	return b.xor(c.keys[0])
}

func (b block) xor(key block) block {
	for i := range b {
		b[i] ^= key[i]
	}
	return b
}

// turn turns the k-th row left by k, so many times; four times come to nothing, so three are the way back.
func (b block) turn(times int) block {
	var out block
	for i := range out {
		c, k := i/4, i%4
		out[i] = b[4*((c+times*k)%4)+k]
	}
	return out
}

func (b block) column(c int) word {
	return word(b[4*c : 4*c+4])
}

func (b block) mix() block {
	var out block
	for c := range 4 {
		w := b.column(c).mix()
		copy(out[4*c:], w[:])
	}
	return out
}

func (b block) unmix() block {
	var out block
	for c := range 4 {
		w := b.column(c).unmix()
		copy(out[4*c:], w[:])
	}
	return out
}

func (w word) mix() word {
	var out word
	for k := range out {
		out[k] = double(w[k]) ^ triple(w[(k+1)%4]) ^ w[(k+2)%4] ^ w[(k+3)%4]
	}
	return out
}

// unmix is mix three times, for four come to nothing; twice, at once, is by 5, 0, 4, 0.
func (w word) unmix() word {
	even := double(double(w[0] ^ w[2]))
	odd := double(double(w[1] ^ w[3]))
	return word{w[0] ^ even, w[1] ^ odd, w[2] ^ even, w[3] ^ odd}.mix()
}

// next is the block and 1, as a number whose greatest byte is the first.
func (b block) next() block {
	for i := len(b) - 1; i >= 0; i-- {
		b[i]++
		if b[i] != 0 {
			break
		}
	}
	return b
}
