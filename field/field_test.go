package field_test

import (
	"math/big"
	"math/rand"
	"testing"

	"keyward/api"
	"keyward/field"
)

const full = 1<<64 - 1

// What the chapter's words come to, as words written out by hand.
var (
	zero    = api.Fe{}
	one     = api.Fe{1}
	pLess2  = api.Fe{full - 20, full, full, full >> 1}
	pLess1  = api.Fe{full - 19, full, full, full >> 1}
	p       = api.Fe{full - 18, full, full, full >> 1}
	pPlus1  = api.Fe{full - 17, full, full, full >> 1}
	below55 = api.Fe{full, full, full, full >> 1} // 2^255 - 1
	at55    = api.Fe{0, 0, 0, 1 << 63}            // 2^255
	twiceP  = api.Fe{full - 37, full, full, full}
	most    = api.Fe{full, full, full, full} // 2^256 - 1
)

// rootOfMinus1 is 2^((P - 1) / 4), as published with the curve.
var rootOfMinus1 = api.Fe{0xc4ee1b274a0ea0b0, 0x2f431806ad2fe478, 0x2b4d00993dfbd7a7, 0x2b8324804fc1df0b}

func number(x api.Fe) *big.Int {
	n := new(big.Int)
	for i := 3; i >= 0; i-- {
		n.Lsh(n, 64)
		n.Or(n, new(big.Int).SetUint64(x[i]))
	}
	return n
}

func prime() *big.Int {
	n := new(big.Int).Lsh(big.NewInt(1), 255)
	return n.Sub(n, big.NewInt(19))
}

// left is what is left of n by P, as an Fe.
func left(n *big.Int) api.Fe {
	n = new(big.Int).Mod(n, prime())
	var x api.Fe
	for i := range x {
		word := new(big.Int).And(n, new(big.Int).SetUint64(full))
		x[i] = word.Uint64()
		n.Rsh(n, 64)
	}
	return x
}

func edges() []api.Fe {
	return []api.Fe{
		zero, one, {2}, {18}, {19}, {20}, {37}, {38}, {39}, {full}, {0, 1}, {0, 0, 0, 1}, {full, full, full},
		{full - 2, full, full, full >> 4}, {1 << 63, 1 << 63, 1 << 63, 1 << 62},
		pLess2, pLess1, p, pPlus1, below55, at55, {1, 0, 0, 1 << 63}, {full - 18, full, full, full},
		{full - 38, full, full, full}, twiceP, {full - 36, full, full, full}, {full - 1, full, full, full}, most,
	}
}

// numbers are the edges and some others, the same ones at each run.
func numbers(others int) []api.Fe {
	out := edges()
	source := rand.New(rand.NewSource(1))
	for range others {
		out = append(out, api.Fe{source.Uint64(), source.Uint64(), source.Uint64(), source.Uint64()})
	}
	return out
}

func TestCanonOfEdges(t *testing.T) {
	for _, c := range []struct{ in, want api.Fe }{
		{zero, zero}, {one, one}, {pLess1, pLess1}, {p, zero}, {pPlus1, one}, {below55, api.Fe{18}},
		{at55, api.Fe{19}}, {api.Fe{full - 38, full, full, full}, pLess1}, {twiceP, zero}, {api.Fe{full - 36, full, full, full}, one},
		{most, api.Fe{37}}, {api.Fe{5, 6, 7, 8}, api.Fe{5, 6, 7, 8}}, {api.Fe{5, 6, 7, 1<<63 | 8}, api.Fe{24, 6, 7, 8}},
		{api.Fe{full, full, full, 1 << 63}, api.Fe{18, 0, 0, 1}},
	} {
		if got := field.Canon(c.in); got != c.want {
			t.Errorf("Canon(%x) = %x, want %x", c.in, got, c.want)
		}
	}
}

func TestCanon(t *testing.T) {
	for _, x := range numbers(500) {
		if got, want := field.Canon(x), left(number(x)); got != want {
			t.Errorf("Canon(%x) = %x, want %x", x, got, want)
		}
	}
}

func TestSmall(t *testing.T) {
	for _, n := range []uint32{0, 1, 9, 121665, 1 << 31, 1<<32 - 1} {
		if got := field.Small(n); got != (api.Fe{uint64(n)}) {
			t.Errorf("Small(%d) = %x", n, got)
		}
	}
}

func TestOfTakesTheLeastByteFirst(t *testing.T) {
	var b api.Key
	for i := range b {
		b[i] = byte(i + 1)
	}
	want := api.Fe{0x0807060504030201, 0x100f0e0d0c0b0a09, 0x1817161514131211, 0x201f1e1d1c1b1a19}
	if got := field.Of(b); got != want {
		t.Errorf("Of = %x, want %x", got, want)
	}
	if got := field.Bytes(want); got != b {
		t.Errorf("Bytes = %x, want %x", got, b)
	}
}

func TestOfLeavesTheHighestBitOut(t *testing.T) {
	for _, x := range numbers(100) {
		b := whole(x)
		b[31] &= 0x7f
		want := left(number(api.Fe{x[0], x[1], x[2], x[3] &^ (1 << 63)}))
		if got := field.Of(b); got != want {
			t.Errorf("Of(%x) = %x, want %x", b, got, want)
		}
		b[31] |= 0x80
		if got := field.Of(b); got != want {
			t.Errorf("Of(%x) = %x, want %x", b, got, want)
		}
	}
}

func TestOfEdges(t *testing.T) {
	for _, c := range []struct{ in, want api.Fe }{
		{zero, zero}, {one, one}, {pLess1, pLess1}, {p, zero}, {pPlus1, one}, {below55, api.Fe{18}},
		{at55, zero}, {api.Fe{full - 18, full, full, full}, zero}, {twiceP, api.Fe{full - 37, full, full, full >> 1}}, {most, api.Fe{18}},
	} {
		if got := field.Of(whole(c.in)); got != c.want {
			t.Errorf("Of(bytes of %x) = %x, want %x", c.in, got, c.want)
		}
	}
}

// whole is x as 32 bytes, the least first, as it is.
func whole(x api.Fe) api.Key {
	var b api.Key
	for i, v := range number(x).FillBytes(make([]byte, 32)) {
		b[31-i] = v
	}
	return b
}

func TestBytes(t *testing.T) {
	for _, x := range numbers(100) {
		b := field.Bytes(x)
		if want := whole(left(number(x))); b != want {
			t.Errorf("Bytes(%x) = %x, want %x", x, b, want)
		}
		if got := field.Of(b); got != field.Canon(x) {
			t.Errorf("Of(Bytes(%x)) = %x", x, got)
		}
	}
}

func TestBytesOfMinusOne(t *testing.T) {
	want := api.Key{0: 0xec, 31: 0x7f}
	for i := 1; i < 31; i++ {
		want[i] = 0xff
	}
	if got := field.Bytes(field.Neg(field.Small(1))); got != want {
		t.Errorf("Bytes(Neg(1)) = %x", got)
	}
	if got := field.Bytes(p); got != (api.Key{}) {
		t.Errorf("Bytes(P) = %x", got)
	}
}

func TestReckoning(t *testing.T) {
	all := numbers(60)
	for _, x := range all {
		if got, want := field.Neg(x), left(new(big.Int).Neg(number(x))); got != want {
			t.Errorf("Neg(%x) = %x, want %x", x, got, want)
		}
		for _, y := range all {
			m, n := number(x), number(y)
			if got, want := field.Add(x, y), left(new(big.Int).Add(m, n)); got != want {
				t.Errorf("Add(%x, %x) = %x, want %x", x, y, got, want)
			}
			if got, want := field.Sub(x, y), left(new(big.Int).Sub(m, n)); got != want {
				t.Errorf("Sub(%x, %x) = %x, want %x", x, y, got, want)
			}
			if got, want := field.Mul(x, y), left(new(big.Int).Mul(m, n)); got != want {
				t.Errorf("Mul(%x, %x) = %x, want %x", x, y, got, want)
			}
		}
	}
}

func TestReckoningByHand(t *testing.T) {
	for _, c := range []struct {
		name      string
		got, want api.Fe
	}{
		{"P-1 and 1", field.Add(pLess1, one), zero},
		{"most and most", field.Add(most, most), api.Fe{74}},
		{"2^255 and 2^255", field.Add(at55, at55), api.Fe{38}},
		{"0 less 1", field.Sub(zero, one), pLess1},
		{"1 less most", field.Sub(one, most), field.Neg(api.Fe{36})},
		{"P less 0", field.Sub(p, zero), zero},
		{"0 less P", field.Sub(zero, p), zero},
		{"0 less 2P", field.Sub(zero, twiceP), zero},
		{"P-1 by P-1", field.Mul(pLess1, pLess1), one},
		{"most by most", field.Mul(most, most), api.Fe{37 * 37}},
		{"2^255 by 2", field.Mul(at55, api.Fe{2}), api.Fe{38}},
		{"6 by 7", field.Mul(field.Small(6), field.Small(7)), api.Fe{42}},
		{"P by most", field.Mul(p, most), zero},
		{"minus 0", field.Neg(zero), zero},
		{"minus P", field.Neg(p), zero},
		{"minus 1", field.Neg(one), pLess1},
		{"minus P+1", field.Neg(pPlus1), pLess1},
		{"minus P-1", field.Neg(pLess1), one},
	} {
		if c.got != c.want {
			t.Errorf("%s: %x, want %x", c.name, c.got, c.want)
		}
	}
}

func TestAnyOrder(t *testing.T) {
	some := numbers(5)
	for _, x := range some {
		for _, y := range some {
			if field.Add(x, y) != field.Add(y, x) || field.Mul(x, y) != field.Mul(y, x) {
				t.Errorf("%x and %x: not the same the other way round", x, y)
			}
			z := api.Fe{x[3], y[2], x[1] ^ y[1], y[0]}
			if field.Add(field.Add(x, y), z) != field.Add(x, field.Add(y, z)) {
				t.Errorf("%x, %x and %x: sums differ", x, y, z)
			}
			if field.Mul(field.Mul(x, y), z) != field.Mul(x, field.Mul(y, z)) {
				t.Errorf("%x, %x and %x: products differ", x, y, z)
			}
			if field.Mul(x, field.Add(y, z)) != field.Add(field.Mul(x, y), field.Mul(x, z)) {
				t.Errorf("%x, %x and %x: product of a sum differs", x, y, z)
			}
		}
	}
}

func TestPow(t *testing.T) {
	some := numbers(6)
	for _, x := range some {
		for _, n := range some {
			want := left(new(big.Int).Exp(number(x), number(n), prime()))
			if got := field.Pow(x, n); got != want {
				t.Errorf("Pow(%x, %x) = %x, want %x", x, n, got, want)
			}
		}
	}
}

func TestPowGoesByTheNumberItself(t *testing.T) {
	two := field.Small(2)
	for _, c := range []struct{ x, n, want api.Fe }{
		{zero, zero, one}, {p, zero, one}, {two, zero, one}, {most, zero, one},
		{zero, one, zero}, {zero, p, zero}, {two, one, two}, {pPlus1, one, one}, {most, one, api.Fe{37}},
		{two, api.Fe{10}, api.Fe{1024}}, {two, api.Fe{64}, api.Fe{0, 1}}, {two, api.Fe{255}, api.Fe{19}},
		{two, pLess1, one}, {two, p, two}, {two, pPlus1, api.Fe{4}}, {two, twiceP, api.Fe{4}},
		{pLess1, most, pLess1}, {two, below55, api.Fe{1 << 19}}, {two, at55, api.Fe{1 << 20}},
		{two, most, api.Fe{1 << 39}},
	} {
		if got := field.Pow(c.x, c.n); got != c.want {
			t.Errorf("Pow(%x, %x) = %x, want %x", c.x, c.n, got, c.want)
		}
	}
}

func TestInv(t *testing.T) {
	for _, x := range numbers(60) {
		y := field.Inv(x)
		if y != field.Pow(x, pLess2) || y != field.Canon(y) {
			t.Errorf("Inv(%x) = %x is not its power, or not CANON", x, y)
		}
		want := one
		if field.Canon(x) == zero {
			want = zero
		}
		if got := field.Mul(x, y); got != want {
			t.Errorf("%x by its Inv is %x, want %x", x, got, want)
		}
	}
	if got := field.Inv(pLess1); got != pLess1 {
		t.Errorf("Inv(-1) = %x", got)
	}
	if got := field.Inv(twiceP); got != zero {
		t.Errorf("Inv(2P) = %x", got)
	}
}

func TestRootByHand(t *testing.T) {
	four, two := field.Small(4), field.Small(2)
	for _, c := range []struct {
		name string
		x, y api.Fe
		want api.Fe
		ok   bool
	}{
		{"4 by 1", four, one, two, true},
		{"1 by 4", one, four, field.Neg(field.Inv(two)), true},
		{"1 by 1: -1 is even", one, one, pLess1, true},
		{"9 by 1: -3 is even", field.Small(9), one, field.Neg(field.Small(3)), true},
		{"-1 by 1", pLess1, one, rootOfMinus1, true},
		{"1 by -1", one, pLess1, rootOfMinus1, true},
		{"-1 by -1", pLess1, pLess1, pLess1, true},
		{"2 by 1: none", two, one, zero, false},
		{"1 by 2: none", one, two, zero, false},
		{"-2 by 1: none", field.Neg(two), one, zero, false},
		{"2 by 2", two, two, pLess1, true},
		{"0 by 1", zero, one, zero, true},
		{"0 by 0", zero, zero, zero, true},
		{"0 by 2", zero, two, zero, true},
		{"1 by 0: none", one, zero, zero, false},
		{"P by P", p, p, zero, true},
		{"P+1 by P: none", pPlus1, p, zero, false},
		{"2P by most", twiceP, most, zero, true},
		{"P+1 by P+1", pPlus1, pPlus1, pLess1, true},
		{"P+4 by P+1", api.Fe{full - 14, full, full, full >> 1}, pPlus1, two, true},
		{"2P-1 by P+1", api.Fe{full - 38, full, full, full}, pPlus1, rootOfMinus1, true},
	} {
		if got, ok := field.Root(c.x, c.y); got != c.want || ok != c.ok {
			t.Errorf("Root of %s: %x, %v, want %x, %v", c.name, got, ok, c.want, c.ok)
		}
	}
}

// wantedRoot is the even root of x by y, found another way than the chapter's.
func wantedRoot(x, y api.Fe) (api.Fe, bool) {
	m, n := left(number(x)), left(number(y))
	if m == zero {
		return zero, true
	}
	if n == zero {
		return zero, false
	}
	square := new(big.Int).ModInverse(number(n), prime())
	square.Mul(square, number(m)).Mod(square, prime())
	root := new(big.Int).ModSqrt(square, prime())
	if root == nil {
		return zero, false
	}
	if root.Bit(0) == 1 {
		root.Sub(prime(), root)
	}
	return left(root), true
}

func TestRoot(t *testing.T) {
	some := numbers(12)
	plain, turned, none := 0, 0, 0
	for _, x := range some {
		for _, y := range some {
			got, ok := field.Root(x, y)
			if want, there := wantedRoot(x, y); got != want || ok != there {
				t.Errorf("Root(%x, %x) = %x, %v, want %x, %v", x, y, got, ok, want, there)
			}
			switch near := nearSquare(x, y); {
			case !ok:
				none++
			case near == field.Canon(x):
				plain++
			case near == field.Neg(x):
				turned++
			}
		}
	}
	if plain == 0 || turned == 0 || none == 0 {
		t.Errorf("not all of the chapter's cases came: %d, %d, %d", plain, turned, none)
	}
}

// nearSquare is y·r², with the chapter's r.
func nearSquare(x, y api.Fe) api.Fe {
	power := new(big.Int).Rsh(new(big.Int).Sub(prime(), big.NewInt(5)), 3)
	m, n := number(x), number(y)
	r := new(big.Int).Exp(n, big.NewInt(7), prime())
	r.Exp(r.Mul(r, m), power, prime())
	r.Mul(r, m).Mul(r, new(big.Int).Exp(n, big.NewInt(3), prime()))
	return left(r.Mul(r, r).Mul(r, n))
}
