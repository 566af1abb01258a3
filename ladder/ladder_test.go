package ladder_test

import (
	"crypto/ecdh"
	"encoding/hex"
	"math/big"
	"math/rand"
	"testing"

	"keyward/api"
	"keyward/ladder"
)

func key(t *testing.T, text string) api.Key {
	t.Helper()
	b, err := hex.DecodeString(text)
	if err != nil || len(b) != 32 {
		t.Fatalf("%q is not a key", text)
	}
	return api.Key(b)
}

// filled is a key of one byte, but for its first and its last.
func filled(first, between, last byte) api.Key {
	var k api.Key
	for i := range k {
		k[i] = between
	}
	k[0], k[31] = first, last
	return k
}

// keys are edges and some others, the same ones at each run.
func keys(others int) []api.Key {
	out := []api.Key{
		{}, {1}, {2}, {7}, {8}, {9}, {0xff}, {31: 0x40}, {31: 0x80}, {31: 0xff}, {31: 0xbf}, {15: 0x80, 16: 1},
		filled(0xff, 0xff, 0xff), filled(0xff, 0xff, 0x7f), filled(0xec, 0xff, 0x7f), filled(0xed, 0xff, 0x7f),
		filled(0xee, 0xff, 0x7f), filled(0xed, 0xff, 0xff), filled(0xf8, 0xff, 0x3f), filled(0x07, 0, 0x80),
	}
	source := rand.New(rand.NewSource(2))
	for range others {
		var k api.Key
		source.Read(k[:])
		out = append(out, k)
	}
	return out
}

func TestClampByHand(t *testing.T) {
	for _, c := range []struct{ in, want api.Key }{
		{api.Key{}, api.Key{31: 0x40}},
		{api.Key{7}, api.Key{31: 0x40}},
		{api.Key{8}, api.Key{0: 8, 31: 0x40}},
		{api.Key{0xf8, 7}, api.Key{0: 0xf8, 1: 7, 31: 0x40}},
		{api.Key{31: 0x80}, api.Key{31: 0x40}},
		{api.Key{31: 0x40}, api.Key{31: 0x40}},
		{api.Key{31: 0x3f}, api.Key{31: 0x7f}},
		{api.Key{30: 0xff, 31: 0xc0}, api.Key{30: 0xff, 31: 0x40}},
		{filled(0xff, 0xff, 0xff), filled(0xf8, 0xff, 0x7f)},
		{filled(0x5d, 0xa5, 0x9b), filled(0x58, 0xa5, 0x5b)},
	} {
		if got := ladder.Clamp(c.in); got != c.want {
			t.Errorf("Clamp(%x) = %x, want %x", c.in, got, c.want)
		}
	}
}

func TestClampTouchesFiveBitsAlone(t *testing.T) {
	for _, k := range keys(50) {
		got := ladder.Clamp(k)
		if got[0]&7 != 0 || got[31]&0xc0 != 0x40 {
			t.Errorf("Clamp(%x) = %x", k, got)
		}
		got[0] |= k[0] & 7
		got[31] = got[31]&0x3f | k[31]&0xc0
		if got != k {
			t.Errorf("Clamp(%x) changed more than its five bits: %x", k, got)
		}
		if once := ladder.Clamp(k); ladder.Clamp(once) != once {
			t.Errorf("Clamp of Clamp(%x) differs", k)
		}
	}
}

// The published vectors: two of one step, and what 1 and 1000 steps come to, each of the step before.
func TestPublishedVectors(t *testing.T) {
	for _, c := range []struct{ k, u, want string }{
		{"a546e36bf0527c9d3b16154b82465edd62144c0ac1fc5a18506a2244ba449ac4", "e6db6867583030db3594c1a424b15f7c726624ec26b3353b10a903a6d0ab1c4c", "c3da55379de9c6908e94ea4df28d084f32eccf03491c71f754b4075577a28552"},
		{"4b66e9d4d1b4673c5ad22691957d6af5c11b6421e0ea01d42ca4169e7918ba0d", "e5210f12786811d3f4b7959d0538ae2c31dbe7106fc03c3efc4cd549c715a493", "95cbde9476e8907d7aade45cb4b873f88b595a68799fa152e6f8f7647aac7957"},
	} {
		if got := ladder.Mul(key(t, c.k), key(t, c.u)); got != key(t, c.want) {
			t.Errorf("Mul(%s, %s) = %x, want %s", c.k, c.u, got, c.want)
		}
	}
	k, u := api.Key{9}, api.Key{9}
	for i := 1; i <= 1000; i++ {
		k, u = ladder.Mul(k, u), k
		if i == 1 && k != key(t, "422c8e7a6227d7bca1350b3e2bb7279f7897b87bb6854b783c60e80311ae3079") {
			t.Errorf("behind 1 step: %x", k)
		}
	}
	if k != key(t, "684cf59ba83309552800ef566f2f4d3c1c3887c49360e3875f2eb94d99532c51") {
		t.Errorf("behind 1000 steps: %x", k)
	}
}

func TestPublicOfTheExample(t *testing.T) {
	secret := key(t, "77076d0a7318a57d3c16c17251b26645df4c2f92ebc0992ac177fba51db92c2a")
	want := key(t, "f8a9535a2d2ff605e8e144d54f4ef5c62313a2055dbb21fddd3fd9c299eb015d")
	if got := ladder.Public(secret); got != want {
		t.Errorf("Public = %x, want %x", got, want)
	}
	if got, want := ladder.Make(secret), (api.Pair{Secret: secret, Public: want}); got != want {
		t.Errorf("Make = %x, want %x", got, want)
	}
}

func TestPublicIsMulOfNine(t *testing.T) {
	for _, k := range keys(20) {
		private, err := ecdh.X25519().NewPrivateKey(k[:])
		if err != nil {
			t.Fatal(err)
		}
		want := api.Key(private.PublicKey().Bytes())
		if got := ladder.Public(k); got != want || got != ladder.Mul(k, api.Key{9}) {
			t.Errorf("Public(%x) = %x, want %x", k, got, want)
		}
	}
}

func TestMakeKeepsTheSecretAsItIs(t *testing.T) {
	for _, k := range keys(5) {
		if got, want := ladder.Make(k), (api.Pair{Secret: k, Public: ladder.Public(k)}); got != want {
			t.Errorf("Make(%x) = %x, want %x", k, got, want)
		}
	}
}

// published is what the library's X25519 makes of both; nothing, where it refuses.
func published(t *testing.T, k, u api.Key) (api.Key, bool) {
	t.Helper()
	private, err := ecdh.X25519().NewPrivateKey(k[:])
	if err != nil {
		t.Fatal(err)
	}
	public, err := ecdh.X25519().NewPublicKey(u[:])
	if err != nil {
		t.Fatal(err)
	}
	shared, err := private.ECDH(public)
	if err != nil {
		return api.Key{}, false
	}
	return api.Key(shared), true
}

func TestMulAndAgreeAsPublished(t *testing.T) {
	none, some := 0, 0
	for _, k := range keys(12) {
		for _, u := range keys(12) {
			want, there := published(t, k, u)
			if got := ladder.Mul(k, u); got != want {
				t.Errorf("Mul(%x, %x) = %x, want %x", k, u, got, want)
			}
			if got, ok := ladder.Agree(k, u); got != want || ok != there {
				t.Errorf("Agree(%x, %x) = %x, %v, want %x, %v", k, u, got, ok, want, there)
			}
			if there {
				some++
			} else {
				none++
			}
		}
	}
	if none == 0 || some == 0 {
		t.Errorf("not both came: %d, %d", none, some)
	}
}

// plain is u as the number that it counts as, as 32 bytes: without its highest bit, and what is left of it by P.
func plain(u api.Key) api.Key {
	prime := new(big.Int).Lsh(big.NewInt(1), 255)
	prime.Sub(prime, big.NewInt(19))
	u[31] &= 0x7f
	n := new(big.Int)
	for i := 31; i >= 0; i-- {
		n.Lsh(n, 8).Or(n, big.NewInt(int64(u[i])))
	}
	n.Mod(n, prime)
	var out api.Key
	for i, v := range n.FillBytes(make([]byte, 32)) {
		out[31-i] = v
	}
	return out
}

func TestMulOfNumbersThatCountAsMuch(t *testing.T) {
	k := filled(0x11, 0x22, 0x33)
	for _, u := range keys(10) {
		want := ladder.Mul(k, plain(u))
		high := u
		high[31] ^= 0x80
		if got := ladder.Mul(k, u); got != want {
			t.Errorf("Mul by %x: %x, want %x", u, got, want)
		}
		if got := ladder.Mul(k, high); got != want {
			t.Errorf("Mul by %x: %x, want %x", high, got, want)
		}
	}
}

func TestMulSeesOfASecretWhatClampLeaves(t *testing.T) {
	u := filled(0x44, 0x55, 0x66)
	for _, k := range keys(5) {
		want := ladder.Mul(ladder.Clamp(k), u)
		for _, change := range []api.Key{{1}, {2}, {4}, {31: 0x40}, {31: 0x80}} {
			other := k
			other[0] ^= change[0]
			other[31] ^= change[31]
			if got := ladder.Mul(other, u); got != want {
				t.Errorf("Mul of %x: %x, want %x", other, got, want)
			}
		}
	}
}

// The numbers of the points that a factor 8 takes away, as published: with none of them is anything agreed on.
func TestNothingIsAgreedWithPointsOfSmallOrder(t *testing.T) {
	small := []api.Key{
		{}, {1}, {31: 0x80}, {0: 1, 31: 0x80},
		key(t, "e0eb7a7c3b41b8ae1656e3faf19fc46ada098deb9c32b1fd866205165f49b800"),
		key(t, "5f9c95bca3508c24b1d0b1559c83ef5b04445cc4581c8e86d8224eddd09f1157"),
		filled(0xec, 0xff, 0x7f), filled(0xed, 0xff, 0x7f), filled(0xee, 0xff, 0x7f),
		filled(0xec, 0xff, 0xff), filled(0xed, 0xff, 0xff), filled(0xee, 0xff, 0xff),
	}
	for _, k := range keys(3) {
		for _, u := range small {
			if got := ladder.Mul(k, u); got != (api.Key{}) {
				t.Errorf("Mul(%x, %x) = %x, want nothing", k, u, got)
			}
			if got, ok := ladder.Agree(k, u); got != (api.Key{}) || ok {
				t.Errorf("Agree(%x, %x) = %x, %v, want nothing, false", k, u, got, ok)
			}
		}
		if got, ok := ladder.Agree(k, api.Key{2}); got == (api.Key{}) || !ok {
			t.Errorf("Agree(%x, 2) = %x, %v, want something, true", k, got, ok)
		}
	}
}

func TestBothAgree(t *testing.T) {
	some := keys(6)
	for _, mine := range some {
		for _, theirs := range some {
			here, ok := ladder.Agree(mine, ladder.Make(theirs).Public)
			there, too := ladder.Agree(theirs, ladder.Make(mine).Public)
			if here != there || !ok || !too {
				t.Errorf("%x and %x: %x, %v and %x, %v", mine, theirs, here, ok, there, too)
			}
		}
	}
}
