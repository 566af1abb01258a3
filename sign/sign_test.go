package sign_test

import (
	"bytes"
	"crypto/ed25519"
	"crypto/sha512"
	"encoding/hex"
	"math/big"
	"math/rand"
	"slices"
	"sync"
	"testing"

	"keyward/api"
	"keyward/edwards"
	"keyward/scalar"
	"keyward/sign"
)

// eighth is a point of which eight make nothing, as bytes.
const eighth = "26e8958fc2b227b045c3f489f2ef98f0d5dfac05d3c63339b13802886d53fc05"

func unhex(t *testing.T, text string) []byte {
	t.Helper()
	b, err := hex.DecodeString(text)
	if err != nil {
		t.Fatal(err)
	}
	return b
}

// drawn is n bytes, the same ones at each run.
func drawn(n int, seed int64) []byte {
	b := make([]byte, n)
	rand.New(rand.NewSource(seed)).Read(b)
	return b
}

func drawnKey(seed int64) api.Key { return api.Key(drawn(32, seed)) }

// filled is a key of one byte, but for its first and its last.
func filled(first, between, last byte) api.Key {
	k := api.Key(bytes.Repeat([]byte{between}, 32))
	k[0], k[31] = first, last
	return k
}

// wantPublic and wantSign are the library's.
func wantPublic(secret api.Key) api.Key {
	return api.Key(ed25519.NewKeyFromSeed(secret[:]).Public().(ed25519.PublicKey))
}

func wantSign(secret api.Key, b []byte) api.Sig {
	return api.Sig(ed25519.Sign(ed25519.NewKeyFromSeed(secret[:]), b))
}

func libraryVerifies(public api.Key, b []byte, s api.Sig) bool {
	return ed25519.Verify(public[:], b, s[:])
}

// holdSign wants the library's answers, and that what is signed is verified.
func holdSign(t *testing.T, secret api.Key, b []byte) {
	t.Helper()
	public, s := sign.Public(secret), sign.Sign(secret, b)
	if want := wantPublic(secret); public != want {
		t.Errorf("Public(%x) = %x, want %x", secret, public, want)
	}
	if want := wantSign(secret, b); s != want {
		t.Errorf("Sign(%x) of %d bytes = %x, want %x", secret, len(b), s, want)
	}
	if !sign.Verify(public, b, s) {
		t.Errorf("Verify of what %x signed, %d bytes: false", secret, len(b))
	}
}

// holdFalse wants that it is no signature.
func holdFalse(t *testing.T, what string, public api.Key, b []byte, s api.Sig) {
	t.Helper()
	if sign.Verify(public, b, s) {
		t.Errorf("%s: Verify(%x, %x, %x) is true", what, public, b, s)
	}
}

func join(begin, end api.Key) api.Sig { return api.Sig(slices.Concat(begin[:], end[:])) }

// binding is the number k of the chapter, by the library's digest.
func binding(begin, public api.Key, b []byte) api.Key {
	return scalar.Reduce(sha512.Sum512(slices.Concat(begin[:], public[:], b)))
}

func encodedBase(n api.Key) api.Key { return edwards.Encode(edwards.Mul(n, edwards.Base())) }

// below is a number below the order.
func below(seed int64) api.Key { return scalar.Reduce(api.Sig(drawn(64, seed))) }

func TestPublishedVectors(t *testing.T) {
	for _, c := range []struct{ secret, public, b, s string }{
		{
			"9d61b19deffd5a60ba844af492ec2cc44449c5697b326919703bac031cae7f60",
			"d75a980182b10ab7d54bfed3c964073a0ee172f3daa62325af021a68f707511a", "",
			"e5564300c360ac729086e2cc806e828a84877f1eb8e5d974d873e065224901555fb8821590a33bacc61e39701cf9b46bd25bf5f0595bbe24655141438e7a100b",
		},
		{
			"4ccd089b28ff96da9db6c346ec114e0f5b8a319f35aba624da8cf6ed4fb8a6fb",
			"3d4017c3e843895a92b70aa74d1b7ebc9c982ccf2ec4968cc0cd55f12af4660c", "72",
			"92a009a9f0d4cab8720e820b5f642540a2b27b5416503f8fb3762223ebdb69da085ac1e43e15996e458f3613d0f11d8c387b2eaeb4302aeeb00d291612bb0c00",
		},
		{
			"c5aa8df43f9f837bedb7442f31dcb7b166d38535076f094b85ce3a2e0b4458f7",
			"fc51cd8e6218a1a38da47ed00230f0580816ed13ba3303ac5deb911548908025", "af82",
			"6291d657deec24024827e69c3abe01a30ce548a284743a445e3680d7db5ac3ac18ff9b538d16f290ae67f760984dc6594a7c15e9716ed28dc027beceea1ec40a",
		},
	} {
		secret, b := api.Key(unhex(t, c.secret)), unhex(t, c.b)
		public, s := api.Key(unhex(t, c.public)), api.Sig(unhex(t, c.s))
		if got := sign.Public(secret); got != public {
			t.Errorf("Public(%x) = %x, want %x", secret, got, public)
		}
		if got := sign.Sign(secret, b); got != s {
			t.Errorf("Sign(%x, %x) = %x, want %x", secret, b, got, s)
		}
		if !sign.Verify(public, b, s) {
			t.Errorf("Verify(%x, %x, %x) is false", public, b, s)
		}
	}
}

// Of every length round the blocks of each digest that is made: of 32 bytes and the text, and of 64 and the text.
func TestEveryLength(t *testing.T) {
	for n := range 280 {
		holdSign(t, drawnKey(int64(n)), drawn(n, int64(1000+n)))
	}
	holdSign(t, drawnKey(3), drawn(60000, 1))
	holdSign(t, drawnKey(4), make([]byte, 1<<20+1))
}

func TestSecretsOfAllKinds(t *testing.T) {
	b := []byte("x")
	for _, secret := range []api.Key{{}, {1}, {31: 0x80}, filled(255, 255, 255), filled(7, 0, 0xc0), filled(0xf8, 0xff, 0x3f), scalar.Order()} {
		holdSign(t, secret, b)
	}
	// Every bit of a secret counts, for what is told of it and for its signatures.
	secret := drawnKey(5)
	public, s := sign.Public(secret), sign.Sign(secret, b)
	for i := range 8 * len(secret) {
		other := secret
		other[i/8] ^= 1 << (i % 8)
		holdSign(t, other, b)
		if sign.Public(other) == public {
			t.Errorf("bit %d of a secret makes no other Public", i)
		}
		holdFalse(t, "another secret's signature", public, b, sign.Sign(other, b))
		holdFalse(t, "another secret's Public", sign.Public(other), b, s)
	}
}

func TestEveryBitIsLookedAt(t *testing.T) {
	secret, b := drawnKey(6), drawn(40, 7)
	public, s := sign.Public(secret), sign.Sign(secret, b)
	for i := range 8 * len(s) {
		other := s
		other[i/8] ^= 1 << (i % 8)
		holdFalse(t, "a bit of the signature", public, b, other)
	}
	for i := range 8 * len(public) {
		other := public
		other[i/8] ^= 1 << (i % 8)
		holdFalse(t, "a bit of Public", other, b, s)
	}
	for i := range 8 * len(b) {
		other := bytes.Clone(b)
		other[i/8] ^= 1 << (i % 8)
		holdFalse(t, "a bit of what was signed", public, other, s)
	}
	if !sign.Verify(public, b, s) {
		t.Error("Verify of what was signed: false")
	}
}

func TestOtherTexts(t *testing.T) {
	secret, b := drawnKey(8), drawn(130, 9)
	public, s := sign.Public(secret), sign.Sign(secret, b)
	for n := range b {
		holdFalse(t, "a shorter text", public, b[:n], s)
		holdFalse(t, "a text without its begin", public, b[n+1:], s)
	}
	for _, other := range [][]byte{append(bytes.Clone(b), 0), append([]byte{0}, b...), slices.Concat(b, b), slices.Concat(public[:], b)} {
		holdFalse(t, "a longer text", public, other, s)
	}
	// The document's seventh example.
	holdFalse(t, "a signature of x, of y", public, []byte("y"), sign.Sign(secret, []byte("x")))
}

// What stands side by side where it is digested is not one thing for the other: the text's first bytes, and Public's.
func TestPartsStayApart(t *testing.T) {
	secret := drawnKey(10)
	public, b := sign.Public(secret), drawn(64, 11)
	s := sign.Sign(secret, b)
	begin, end := api.Key(s[:32]), api.Key(s[32:])
	holdFalse(t, "halves changed", public, b, join(end, begin))
	holdFalse(t, "the begin twice", public, b, join(begin, begin))
	holdFalse(t, "Public for the begin", public, b, join(public, end))
	holdFalse(t, "the begin for Public", begin, b, s)
	holdFalse(t, "Public and begin changed", begin, b, join(public, end))
	// Nobody who hasn't the secret makes one: k without Public, without the begin, or without the text.
	once := below(12)
	r := encodedBase(once)
	signing := sha512.Sum512(secret[:])
	a := api.Key(signing[:32])
	a[0] &^= 7
	a[31] = a[31]&0x3f | 0x40
	for what, parts := range map[string][]byte{
		"k of begin and text":         slices.Concat(r[:], b),
		"k of Public and text":        slices.Concat(public[:], b),
		"k of begin and Public":       slices.Concat(r[:], public[:]),
		"k of the text":               b,
		"k of Public, begin and text": slices.Concat(public[:], r[:], b),
		"k of the text first":         slices.Concat(b, r[:], public[:]),
	} {
		k := scalar.Reduce(sha512.Sum512(parts))
		holdFalse(t, what, public, b, join(r, scalar.Mad(k, a, once)))
	}
	if !sign.Verify(public, b, join(r, scalar.Mad(binding(r, public, b), a, once))) {
		t.Error("another number than Sign's makes no signature")
	}
}

// Each signature's own number hangs on the secret and on the text: no begin comes twice, and none is another's.
func TestBeginsAreAnotherOneEachTime(t *testing.T) {
	seen := map[api.Key]bool{}
	for i := range 40 {
		for _, seed := range []int64{13, 14} {
			s := sign.Sign(drawnKey(seed), drawn(i, 15))
			begin := api.Key(s[:32])
			if seen[begin] {
				t.Errorf("%x begins two signatures", begin)
			}
			seen[begin] = true
		}
	}
}

// The order, added as often as it fits, makes the same point: but such an end is not Canon.
func TestEndsThatAreNotCanon(t *testing.T) {
	order := new(big.Int)
	all := scalar.Order()
	slices.Reverse(all[:])
	order.SetBytes(all[:])
	for i := range int64(10) {
		secret, b := drawnKey(i), drawn(int(i), i)
		public, s := sign.Public(secret), sign.Sign(secret, b)
		end := slices.Clone(s[32:])
		slices.Reverse(end)
		n, times := new(big.Int).SetBytes(end), 0
		for n.Add(n, order); n.BitLen() <= 256; n.Add(n, order) {
			other := n.FillBytes(make([]byte, 32))
			slices.Reverse(other)
			holdFalse(t, "an end that is not Canon", public, b, join(api.Key(s[:32]), api.Key(other)))
			times++
		}
		if times < 14 {
			t.Errorf("the order fits %d times", times)
		}
	}
}

// Where all else is nothing, the end alone decides: 0 and no other number that makes nothing of Base.
func TestEndAtTheOrder(t *testing.T) {
	nothing, b := api.Key{1}, []byte("text")
	if !sign.Verify(nothing, b, join(nothing, api.Key{})) {
		t.Error("0 is not taken")
	}
	less := scalar.Order()
	less[0]--
	more := scalar.Order()
	more[0]++
	for _, end := range []api.Key{scalar.Order(), more, less, {1}, filled(255, 255, 255)} {
		holdFalse(t, "an end beside 0", nothing, b, join(nothing, end))
	}
	// The last number below the order is taken, where it is the right one.
	begin := encodedBase(less)
	if !sign.Verify(nothing, b, join(begin, less)) {
		t.Error("the order less 1 is not taken")
	}
	holdFalse(t, "the order", nothing, b, join(encodedBase(api.Key{}), scalar.Order()))
}

// The points have to be the same, not just eight times each: what is left over of a point of eight tells.
func TestPointsAreTheSame(t *testing.T) {
	first, ok := edwards.Decode(api.Key(unhex(t, eighth)))
	if !ok {
		t.Fatal("no point of eight")
	}
	times := func(n byte) api.Point { return edwards.Mul(api.Key{n}, first) }
	a, r := below(16), below(17)
	good, bad := 0, 0
	for left := range byte(8) {
		for more := range byte(8) {
			public := edwards.Encode(edwards.Add(edwards.Mul(a, edwards.Base()), times(left)))
			begin := edwards.Encode(edwards.Add(edwards.Mul(r, edwards.Base()), times(more)))
			for i := range byte(8) {
				b := []byte{i}
				k := binding(begin, public, b)
				s := join(begin, scalar.Mad(k, a, r))
				want := (k[0]*left+more)%8 == 0
				if want {
					good++
				} else {
					bad++
				}
				if got := sign.Verify(public, b, s); got != want || libraryVerifies(public, b, s) != want {
					t.Errorf("%d, %d, %d of a point of eight: %v", left, more, k[0]%8, got)
				}
			}
		}
	}
	if good < 20 || bad < 20 {
		t.Errorf("not both came: %d, %d", good, bad)
	}
}

// noPoints are bytes that edwards.Decode finds no point of: numbers from P on, an x of 0 that is odd, and y's that no point has.
func noPoints(t *testing.T) []api.Key {
	t.Helper()
	var out []api.Key
	for n := range byte(19) {
		out = append(out, filled(0xed+n, 0xff, 0x7f), filled(0xed+n, 0xff, 0xff))
	}
	out = append(out, api.Key{0: 1, 31: 0x80}, filled(0xec, 0xff, 0xff))
	for seed := int64(0); len(out) < 60; seed++ {
		if k := drawnKey(seed); !pointHas(k) {
			out = append(out, k)
		}
	}
	for _, k := range out {
		if pointHas(k) {
			t.Fatalf("%x is a point's", k)
		}
	}
	return out
}

func pointHas(k api.Key) bool {
	_, ok := edwards.Decode(k)
	return ok
}

// Such a Public is nobody's, even if it counts as nothing, or is taken for it: then each begin would do.
func TestPublicsThatAreNoPoints(t *testing.T) {
	byLibrary := 0
	for _, public := range noPoints(t) {
		for i := range byte(4) {
			n := below(int64(i))
			s := join(encodedBase(n), n)
			holdFalse(t, "no point's Public", public, []byte{i}, s)
			holdFalse(t, "no point's Public, and noughts", public, []byte{i}, join(api.Key{1}, api.Key{}))
			if libraryVerifies(public, []byte{i}, s) {
				byLibrary++
			}
		}
	}
	if byLibrary == 0 {
		t.Error("none of these would have done, however it is decoded")
	}
}

// So is such a begin: where it is taken for nothing, an end of nought would do.
func TestBeginsThatAreNoPoints(t *testing.T) {
	public := sign.Public(drawnKey(18))
	signed := sign.Sign(drawnKey(18), []byte("x"))
	for _, begin := range noPoints(t) {
		for _, end := range []api.Key{{}, {1}, api.Key(signed[32:])} {
			holdFalse(t, "no point's begin", public, []byte("x"), join(begin, end))
			holdFalse(t, "no point's begin, by nothing", api.Key{1}, []byte("x"), join(begin, end))
			holdFalse(t, "no point's begin, by no point", begin, []byte("x"), join(begin, end))
		}
	}
}

func TestNothingIsNoSignature(t *testing.T) {
	for i := range int64(20) {
		public, b := sign.Public(drawnKey(i)), drawn(int(i), i)
		holdFalse(t, "noughts", public, b, api.Sig{})
		holdFalse(t, "ones", public, b, api.Sig(bytes.Repeat([]byte{255}, 64)))
		holdFalse(t, "some bytes", public, b, api.Sig(drawn(64, i)))
		holdFalse(t, "nothing, and noughts", public, b, join(api.Key{1}, api.Key{}))
		holdFalse(t, "Public, and noughts", public, b, join(public, api.Key{}))
		holdFalse(t, "the end alone", public, b, join(api.Key{}, below(i)))
	}
	holdFalse(t, "nothing at all", api.Key{}, nil, api.Sig{})
}

func TestNoBytesAreOneThing(t *testing.T) {
	secret := drawnKey(19)
	s := sign.Sign(secret, nil)
	for _, b := range [][]byte{nil, {}, drawn(5, 20)[:0]} {
		if sign.Sign(secret, b) != s {
			t.Error("Sign tells nil and empty apart")
		}
		if !sign.Verify(sign.Public(secret), b, s) {
			t.Error("Verify tells nil and empty apart")
		}
	}
}

func TestArgumentsStayAndNothingBehindThemIsTouched(t *testing.T) {
	secret := drawnKey(21)
	public := sign.Public(secret)
	for _, n := range []int{0, 1, 31, 32, 47, 48, 64, 79, 80, 128, 200} {
		memory := drawn(800, 22)
		b := memory[100 : 100+n]
		before := bytes.Clone(memory)
		s := sign.Sign(secret, b)
		if !sign.Verify(public, b, s) || !bytes.Equal(memory, before) {
			t.Errorf("%d bytes: not verified, or memory is another", n)
		}
		for i := range memory {
			if i < 100 || i >= 100+n {
				memory[i] ^= 0xff
			}
		}
		if sign.Sign(secret, b) != s || !sign.Verify(public, b, s) {
			t.Errorf("%d bytes: what lies round them counts", n)
		}
	}
	if secret != drawnKey(21) || public != sign.Public(secret) {
		t.Error("a key changed")
	}
}

// An answer hangs on its own arguments alone, whatever else is asked ahead of it or at the same time.
func TestNothingIsKept(t *testing.T) {
	var all sync.WaitGroup
	for worker := range 8 {
		all.Go(func() {
			for n := range 10 {
				holdSign(t, drawnKey(int64(worker)), drawn(n, int64(worker)))
				holdFalse(t, "noughts", sign.Public(drawnKey(int64(n))), nil, api.Sig{})
			}
		})
	}
	all.Wait()
}
