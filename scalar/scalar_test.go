package scalar_test

import (
	"crypto/ed25519"
	"crypto/sha512"
	"encoding/hex"
	"math/big"
	"math/rand"
	"testing"

	"keyward/api"
	"keyward/edwards"
	"keyward/scalar"
)

// orderBytes is the published order, the least byte first, written out by hand.
const orderBytes = "edd3f55c1a631258d69cf7a2def9de1400000000000000000000000000000010"

func power(n uint) *big.Int { return new(big.Int).Lsh(big.NewInt(1), n) }

// near is n and so much.
func near(n *big.Int, much int64) *big.Int { return new(big.Int).Add(n, big.NewInt(much)) }

// order is 2^252 + 277.., by the library's numbers alone.
func order() *big.Int {
	low, _ := new(big.Int).SetString("27742317777372353535851937790883648493", 10)
	return low.Add(low, power(252))
}

// number is that of bytes, the least first.
func number(b []byte) *big.Int {
	n := new(big.Int)
	for i := len(b) - 1; i >= 0; i-- {
		n.Lsh(n, 8).Or(n, big.NewInt(int64(b[i])))
	}
	return n
}

func fill(b []byte, n *big.Int) {
	for i, v := range n.FillBytes(make([]byte, len(b))) {
		b[len(b)-1-i] = v
	}
}

func key(n *big.Int) api.Key {
	var k api.Key
	fill(k[:], n)
	return k
}

func sig(n *big.Int) api.Sig {
	var s api.Sig
	fill(s[:], n)
	return s
}

func rest(n *big.Int) api.Key { return key(new(big.Int).Mod(n, order())) }

func wantedMad(a, b, c api.Key) api.Key {
	n := new(big.Int).Mul(number(a[:]), number(b[:]))
	return rest(n.Add(n, number(c[:])))
}

// edges are numbers below 2^256 by which a sum, a comparison or a carry may turn.
func edges() []*big.Int {
	out := []*big.Int{big.NewInt(0), big.NewInt(1), big.NewInt(2), big.NewInt(3), big.NewInt(0xff), big.NewInt(0x100)}
	for _, n := range []uint{64, 128, 192, 252, 253, 254, 255} {
		out = append(out, near(power(n), -1), power(n), near(power(n), 1))
	}
	for times := range int64(16) {
		n := new(big.Int).Mul(order(), big.NewInt(times))
		if times > 0 && n.BitLen() <= 256 {
			out = append(out, near(n, -1), n, near(n, 1))
		}
	}
	// The order, with one word of it another one.
	for i := range uint(4) {
		bit := power(64 * i)
		out = append(out, new(big.Int).Add(order(), bit), new(big.Int).Sub(order(), bit))
	}
	return append(out, near(power(256), -2), near(power(256), -1))
}

// keys are the edges, and others, the same ones at each run.
func keys(seed int64, others int) []api.Key {
	var out []api.Key
	for _, n := range edges() {
		out = append(out, key(n))
	}
	return append(out, randomKeys(seed, others)...)
}

func randomKeys(seed int64, n int) []api.Key {
	source := rand.New(rand.NewSource(seed))
	out := make([]api.Key, n)
	for i := range out {
		source.Read(out[i][:])
	}
	return out
}

func checkBelow(t *testing.T, what string, got api.Key) {
	t.Helper()
	if number(got[:]).Cmp(order()) >= 0 || !scalar.Canon(got) {
		t.Errorf("%s: %x is not below the order", what, got)
	}
}

func TestOrder(t *testing.T) {
	got := scalar.Order()
	if got != key(order()) || hex.EncodeToString(got[:]) != orderBytes {
		t.Errorf("Order = %x", got)
	}
	got[0] = 0
	if scalar.Order() != key(order()) {
		t.Error("Order is another one when what it told was changed")
	}
}

func TestReduceByHand(t *testing.T) {
	all := order()
	squared := new(big.Int).Mul(all, all)
	for _, c := range []struct {
		name string
		n    *big.Int
		want *big.Int
	}{
		{"noughts", big.NewInt(0), big.NewInt(0)},
		{"7", big.NewInt(7), big.NewInt(7)},
		{"order - 1", near(all, -1), near(all, -1)},
		{"order", all, big.NewInt(0)},
		{"order + 1", near(all, 1), big.NewInt(1)},
		{"twice the order - 1", near(new(big.Int).Lsh(all, 1), -1), near(all, -1)},
		{"twice the order", new(big.Int).Lsh(all, 1), big.NewInt(0)},
		{"2^252", power(252), power(252)},
		{"order·2^256", new(big.Int).Lsh(all, 256), big.NewInt(0)},
		{"order·2^259, the last that fits", new(big.Int).Lsh(all, 259), big.NewInt(0)},
		{"order squared", squared, big.NewInt(0)},
		{"order squared - 1", near(squared, -1), near(all, -1)},
		{"order squared + 5", near(squared, 5), big.NewInt(5)},
	} {
		if got := scalar.Reduce(sig(c.n)); got != key(c.want) {
			t.Errorf("Reduce of %s: %x, want %x", c.name, got, key(c.want))
		}
	}
}

// What is left of 2^256 and of 2^512 - 1, as another program reckons it.
func TestReduceWrittenOut(t *testing.T) {
	var most api.Sig
	for i := range most {
		most[i] = 0xff
	}
	for _, c := range []struct {
		b    api.Sig
		want string
	}{
		{api.Sig{32: 1}, "1d95988d7431ecd670cf7d73f45befc6feffffffffffffffffffffffffffff0f"},
		{most, "000f9c44e31106a447938568a71b0ed065bef517d273ecce3d9a307c1b419903"},
	} {
		got := scalar.Reduce(c.b)
		if hex.EncodeToString(got[:]) != c.want {
			t.Errorf("Reduce(%x) = %x, want %s", c.b, got, c.want)
		}
	}
}

// Each of the 512 bits counts, and for what its place says.
func TestReduceOfEachBit(t *testing.T) {
	for i := range uint(512) {
		for _, n := range []*big.Int{power(i), near(power(i), -1), near(power(i+1), -1)} {
			got := scalar.Reduce(sig(n))
			if got != rest(n) {
				t.Errorf("Reduce(%x) = %x, want %x", n, got, rest(n))
			}
			checkBelow(t, "Reduce", got)
		}
	}
}

func TestReduce(t *testing.T) {
	some := keys(1, 20)
	for _, low := range some {
		for _, high := range some {
			var b api.Sig
			copy(b[:], low[:])
			copy(b[32:], high[:])
			got := scalar.Reduce(b)
			if want := rest(number(b[:])); got != want {
				t.Errorf("Reduce(%x) = %x, want %x", b, got, want)
			}
			checkBelow(t, "Reduce", got)
		}
	}
}

// Multiples of the order leave what was put to them.
func TestReduceOfMultiples(t *testing.T) {
	for _, k := range keys(2, 100) {
		n := new(big.Int).Mul(order(), number(k[:]))
		for _, more := range []int64{0, 1, 2, 1 << 62} {
			if got, want := scalar.Reduce(sig(near(n, more))), key(big.NewInt(more)); got != want {
				t.Errorf("order·%x + %d: %x, want %x", k, more, got, want)
			}
		}
		if number(k[:]).Sign() == 0 {
			continue
		}
		if got, want := scalar.Reduce(sig(near(n, -1))), key(near(order(), -1)); got != want {
			t.Errorf("order·%x - 1: %x, want %x", k, got, want)
		}
	}
}

func TestCanonByHand(t *testing.T) {
	for _, c := range []struct {
		name string
		n    *big.Int
		want bool
	}{
		{"0", big.NewInt(0), true},
		{"10", big.NewInt(10), true},
		{"order - 1", near(order(), -1), true},
		{"order", order(), false},
		{"order + 1", near(order(), 1), false},
		{"2^252", power(252), true},
		{"2^252 - 1", near(power(252), -1), true},
		{"2^252 + 2^128", new(big.Int).Add(power(252), power(128)), false},
		{"2^252 + 2^124", new(big.Int).Add(power(252), power(124)), true},
		{"2^253", power(253), false},
		{"2^255", power(255), false},
		{"2^256 - 1", near(power(256), -1), false},
	} {
		if got := scalar.Canon(key(c.n)); got != c.want {
			t.Errorf("Canon of %s is %v", c.name, got)
		}
	}
}

func TestCanon(t *testing.T) {
	all := keys(3, 200)
	// Most are above the order: those with the four highest bits gone are about all below it.
	for _, k := range randomKeys(4, 200) {
		k[31] &= 0x0f
		all = append(all, k)
	}
	// Those that part from the order at one byte alone.
	for i := range 32 {
		for v := range 256 {
			k := key(order())
			k[i] = byte(v)
			all = append(all, k)
		}
	}
	for _, k := range all {
		if got, want := scalar.Canon(k), number(k[:]).Cmp(order()) < 0; got != want {
			t.Errorf("Canon(%x) is %v", k, got)
		}
		var b api.Sig
		copy(b[:], k[:])
		if left := scalar.Reduce(b); (left == k) != scalar.Canon(k) {
			t.Errorf("Canon(%x) is %v, but %x is left of it", k, scalar.Canon(k), left)
		}
	}
}

func TestMadByHand(t *testing.T) {
	all := key(order())
	less := key(near(order(), -1))
	most := key(near(power(256), -1))
	for _, c := range []struct {
		name    string
		a, b, c api.Key
		want    api.Key
	}{
		{"2, 3, 4", api.Key{2}, api.Key{3}, api.Key{4}, api.Key{10}},
		{"3, 4, 2: the last is added", api.Key{3}, api.Key{4}, api.Key{2}, api.Key{14}},
		{"4, 2, 3", api.Key{4}, api.Key{2}, api.Key{3}, api.Key{11}},
		{"noughts", api.Key{}, api.Key{}, api.Key{}, api.Key{}},
		{"0, 5, 6", api.Key{}, api.Key{5}, api.Key{6}, api.Key{6}},
		{"5, 0, 6", api.Key{5}, api.Key{}, api.Key{6}, api.Key{6}},
		{"5, 6, 0", api.Key{5}, api.Key{6}, api.Key{}, api.Key{30}},
		{"16, 16, 0: into another byte", api.Key{16}, api.Key{16}, api.Key{}, api.Key{0, 1}},
		{"2^64 - 1, 1, 1: into another word", key(near(power(64), -1)), api.Key{1}, api.Key{1}, key(power(64))},
		{"1, 1, order - 1", api.Key{1}, api.Key{1}, less, api.Key{}},
		{"1, 2, order - 1", api.Key{1}, api.Key{2}, less, api.Key{1}},
		{"order - 1, order - 1, 0: -1 by -1", less, less, api.Key{}, api.Key{1}},
		{"order - 1, 1, 0", less, api.Key{1}, api.Key{}, less},
		{"order, 2^256 - 1, 7", all, most, api.Key{7}, api.Key{7}},
		{"2^256 - 1, order, 7", most, all, api.Key{7}, api.Key{7}},
		{"0, 0, order", api.Key{}, api.Key{}, all, api.Key{}},
		{"1, order + 1, order + 2", api.Key{1}, key(near(order(), 1)), key(near(order(), 2)), api.Key{3}},
		{"the greatest", most, most, most, wantedMad(most, most, most)},
	} {
		if got := scalar.Mad(c.a, c.b, c.c); got != c.want {
			t.Errorf("Mad of %s: %x, want %x", c.name, got, c.want)
		}
	}
}

func TestMad(t *testing.T) {
	some := keys(5, 10)
	for i, a := range some {
		for j, b := range some {
			for _, c := range []api.Key{some[(7*i+11*j)%len(some)], {}, some[len(some)-1], key(near(power(256), -1))} {
				got := scalar.Mad(a, b, c)
				if want := wantedMad(a, b, c); got != want {
					t.Errorf("Mad(%x, %x, %x) = %x, want %x", a, b, c, got, want)
				}
				checkBelow(t, "Mad", got)
			}
		}
	}
}

// Each bit of each of the three counts, and for what its place says.
func TestMadOfEachBit(t *testing.T) {
	others := randomKeys(6, 2)
	for i := range uint(256) {
		bit := key(power(i))
		for _, c := range [][3]api.Key{
			{bit, others[0], others[1]}, {others[0], bit, others[1]}, {others[0], others[1], bit},
			{bit, {1}, {}}, {{1}, bit, {}}, {{}, {}, bit}, {bit, bit, bit},
		} {
			if got, want := scalar.Mad(c[0], c[1], c[2]), wantedMad(c[0], c[1], c[2]); got != want {
				t.Errorf("Mad(%x) = %x, want %x", c, got, want)
			}
		}
	}
}

// What is left of the three makes the same as they do.
func TestMadOfWhatIsLeft(t *testing.T) {
	some := randomKeys(7, 60)
	left := func(k api.Key) api.Key { return scalar.Mad(k, api.Key{1}, api.Key{}) }
	for i := range len(some) - 2 {
		a, b, c := some[i], some[i+1], some[i+2]
		if left(a) != rest(number(a[:])) {
			t.Errorf("of %x %x is left", a, left(a))
		}
		want := scalar.Mad(a, b, c)
		if got := scalar.Mad(left(a), left(b), left(c)); got != want {
			t.Errorf("Mad(%x, %x, %x) = %x, of what is left %x", a, b, c, want, got)
		}
		if got := scalar.Mad(b, a, c); got != want {
			t.Errorf("Mad(%x, %x, %x) = %x, the other way round %x", a, b, c, want, got)
		}
	}
}

// What is handed in stays: the calls take arrays, and answer the same again.
func TestAgainTheSame(t *testing.T) {
	some := randomKeys(8, 3)
	a, b, c := some[0], some[1], some[2]
	var both api.Sig
	copy(both[:], a[:])
	copy(both[32:], b[:])
	mad, left, small := scalar.Mad(a, b, c), scalar.Reduce(both), scalar.Canon(a)
	for range 3 {
		if scalar.Mad(a, b, c) != mad || scalar.Reduce(both) != left || scalar.Canon(a) != small {
			t.Error("another answer to the same")
		}
	}
	if a != some[0] || b != some[1] || c != some[2] || a != api.Key(both[:32]) || b != api.Key(both[32:]) {
		t.Error("what was handed in is another one")
	}
}

// Base, as often as Order says, is the point that changes no sum; as often as a number says, it is what the rest makes of it.
func TestOrderIsThatOfBase(t *testing.T) {
	b := edwards.Base()
	if got := edwards.Mul(scalar.Order(), b); got != (api.Point{Y: api.Fe{1}}) {
		t.Errorf("Base, Order times: %x", got)
	}
	for _, k := range randomKeys(10, 10) {
		var long api.Sig
		copy(long[:], k[:])
		if edwards.Mul(k, b) != edwards.Mul(scalar.Reduce(long), b) {
			t.Errorf("%x and what is left of it make two points of Base", k)
		}
	}
}

// The last half of a published signature is Mad, of numbers that are Reduce of digests.
func TestSignaturesOfTheLibrary(t *testing.T) {
	for i, seed := range randomKeys(9, 40) {
		text := make([]byte, i)
		secret := ed25519.NewKeyFromSeed(seed[:])
		want := ed25519.Sign(secret, text)
		digest := sha512.Sum512(seed[:])
		a := api.Key(digest[:32])
		a[0] &^= 7
		a[31] = a[31]&0x3f | 0x40
		r := scalar.Reduce(sha512.Sum512(append(digest[32:64:64], text...)))
		hashed := append(append(want[:32:32], secret.Public().(ed25519.PublicKey)...), text...)
		k := scalar.Reduce(sha512.Sum512(hashed))
		got := scalar.Mad(k, a, r)
		if got != api.Key(want[32:]) || !scalar.Canon(got) {
			t.Errorf("of the seed %x: %x, want %x", seed, got, want[32:])
		}
	}
}
