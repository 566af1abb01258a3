package mac_test

import (
	"bytes"
	"crypto/hkdf"
	"crypto/hmac"
	"crypto/sha256"
	"encoding/hex"
	"math"
	"math/rand"
	"strings"
	"sync"
	"testing"

	"keyward/api"
	"keyward/mac"
)

// drawn is n bytes, the same ones at each run.
func drawn(n int, seed int64) []byte {
	b := make([]byte, n)
	rand.New(rand.NewSource(seed)).Read(b)
	return b
}

// unhex reads bytes; spaces are for the eye.
func unhex(t *testing.T, s string) []byte {
	t.Helper()
	b, err := hex.DecodeString(strings.ReplaceAll(s, " ", ""))
	if err != nil {
		t.Fatal(err)
	}
	return b
}

func wantHmac(key, b []byte) api.Key {
	h := hmac.New(sha256.New, key)
	h.Write(b)
	return api.Key(h.Sum(nil))
}

func wantExpand(t *testing.T, key api.Key, info []byte, n int) []byte {
	t.Helper()
	b, err := hkdf.Expand(sha256.New, key[:], string(info), n)
	if err != nil {
		t.Error(err)
	}
	return b
}

func wantExtract(t *testing.T, salt, secret []byte) api.Key {
	t.Helper()
	b, err := hkdf.Extract(sha256.New, secret, salt)
	if err != nil {
		t.Fatal(err)
	}
	return api.Key(b)
}

func TestExampleOfTheChapter(t *testing.T) {
	got := mac.Hmac([]byte("key"), []byte("The quick brown fox jumps over the lazy dog"))
	want := unhex(t, "f7 bc 83 f4 30 53 84 24 b1 32 98 e6 aa 6f b1 43 ef 4d 59 a1 49 46 17 59 97 47 9d bc 2d 1a 3c d8")
	if !bytes.Equal(got[:], want) {
		t.Errorf("Hmac = %x, want %x", got, want)
	}
}

func TestHmacAsPublished(t *testing.T) {
	for _, c := range []struct {
		key  []byte
		b    string
		want string
	}{
		{nil, "", "b613679a0814d9ec772f95d778c35fc5ff1697c493715653c6c712144292c5ad"},
		{bytes.Repeat([]byte{0x0b}, 20), "Hi There", "b0344c61d8db38535ca8afceaf0bf12b881dc200c9833da726e9376c2e32cff7"},
		{[]byte("Jefe"), "what do ya want for nothing?", "5bdcc146bf60754e6a042426089575c75a003f089d2739839dec58b964ec3843"},
		{bytes.Repeat([]byte{0xaa}, 20), strings.Repeat("\xdd", 50), "773ea91e36800e46854db8ebd09181a72959098b3ef8c122d9635514ced565fe"},
		{unhex(t, "0102030405060708090a0b0c0d0e0f10111213141516171819"), strings.Repeat("\xcd", 50), "82558a389a443c0ea4cc819899f2083a85f0faa3e578f8077a2e3ff46729665b"},
		{bytes.Repeat([]byte{0xaa}, 131), "Test Using Larger Than Block-Size Key - Hash Key First", "60e431591ee0b67f0d8a26aacbf5b77f8e0bc6213728c5140546040f0ee37f54"},
		{
			bytes.Repeat([]byte{0xaa}, 131),
			"This is a test using a larger than block-size key and a larger than block-size data. The key needs to be hashed before being used by the HMAC algorithm.",
			"9b09ffa71b942fcb27635fbcd5b0e944bfdc63644f0713938a7f51535c3a35e2",
		},
	} {
		got := mac.Hmac(c.key, []byte(c.b))
		if hex.EncodeToString(got[:]) != c.want {
			t.Errorf("Hmac(%x, %q) = %x, want %s", c.key, c.b, got, c.want)
		}
	}
}

// TestHmacOfEveryLength has keys below, of and above 64 bytes.
func TestHmacOfEveryLength(t *testing.T) {
	for keyLen := range 140 {
		key := drawn(keyLen, int64(keyLen))
		for _, n := range []int{0, 1, 31, 32, 54, 55, 56, 63, 64, 65, 119, 120, 128, 300} {
			b := drawn(n, int64(1000+n))
			if got, want := mac.Hmac(key, b), wantHmac(key, b); got != want {
				t.Errorf("Hmac of a key of %d bytes and %d bytes = %x, want %x", keyLen, n, got, want)
			}
		}
	}
	for n := range 300 {
		b := drawn(n, int64(n))
		if got, want := mac.Hmac([]byte("key"), b), wantHmac([]byte("key"), b); got != want {
			t.Errorf("Hmac of %d bytes = %x, want %x", n, got, want)
		}
	}
}

// TestNoughtsFillAKey: up to 64 bytes, noughts behind a key are no other key; a longer one is its digest.
func TestNoughtsFillAKey(t *testing.T) {
	b := []byte("some bytes")
	key := make([]byte, 66)
	copy(key, "short")
	want := mac.Hmac(key[:5], b)
	for n := 5; n <= 64; n++ {
		if mac.Hmac(key[:n], b) != want {
			t.Errorf("filled to %d bytes: another digest", n)
		}
	}
	for n := 65; n <= 66; n++ {
		short := sha256.Sum256(key[:n])
		got := mac.Hmac(key[:n], b)
		if got == want {
			t.Errorf("a key of %d bytes is taken for a short one", n)
		}
		if got != mac.Hmac(short[:], b) {
			t.Errorf("a key of %d bytes is not taken for its digest", n)
		}
	}
}

func TestHmacTellsKeyFromBytes(t *testing.T) {
	whole := drawn(128, 7)
	seen := map[api.Key]int{}
	for cut := range len(whole) + 1 {
		got := mac.Hmac(whole[:cut], whole[cut:])
		if before, came := seen[got]; came {
			t.Errorf("cut at %d and at %d: one digest", before, cut)
		}
		seen[got] = cut
	}
}

func TestKeysAsPublished(t *testing.T) {
	count := func(from, n int) []byte {
		b := make([]byte, n)
		for i := range b {
			b[i] = byte(from + i)
		}
		return b
	}
	for i, c := range []struct {
		salt, secret, info []byte
		key, want          string
	}{
		{
			count(0, 13), bytes.Repeat([]byte{0x0b}, 22), count(0xf0, 10),
			"077709362c2e32df0ddc3f0dc47bba6390b6c73bb50f9c3122ec844ad7c2b3e5",
			"3cb25f25faacd57a90434f64d0362f2a2d2d0a90cf1a5a4c5db02d56ecc4c5bf34007208d5b887185865",
		},
		{
			count(0x60, 80), count(0, 80), count(0xb0, 80),
			"06a6b88c5853361a06104c9ceb35b45cef760014904671014a193f40c15fc244",
			"b11e398dc80327a1c8e7f78c596a49344f012eda2d4efad8a050cc4c19afa97c59045a99cac7827271cb41c65e590e09da3275600c2f09b8367793a9aca3db71cc30c58179ec3e87c14c01d5c1f3434f1d87",
		},
		{
			nil, bytes.Repeat([]byte{0x0b}, 22), nil,
			"19ef24a32c717b167f33a91d6f648bdf96596776afdb6377ac434c1c293ccb04",
			"8da4e775a563c18f715f802a063c5a31b8a11f5c5ee1879ec3454e5f3c738d2d9d201395faa4b61a96c8",
		},
	} {
		key := mac.Extract(c.salt, c.secret)
		if hex.EncodeToString(key[:]) != c.key {
			t.Errorf("case %d: Extract = %x, want %s", i+1, key, c.key)
		}
		got := mac.Expand(api.Key(unhex(t, c.key)), c.info, len(c.want)/2)
		if hex.EncodeToString(got) != c.want {
			t.Errorf("case %d: Expand = %x, want %s", i+1, got, c.want)
		}
	}
}

func TestExtractOfEveryLength(t *testing.T) {
	for saltLen := range 140 {
		salt := drawn(saltLen, int64(saltLen))
		for _, n := range []int{0, 1, 32, 64, 200} {
			secret := drawn(n, int64(n))
			got := mac.Extract(salt, secret)
			if want := wantExtract(t, salt, secret); got != want {
				t.Errorf("Extract of a salt of %d bytes and %d bytes = %x, want %x", saltLen, n, got, want)
			}
			if saltLen > 0 && got != mac.Hmac(salt, secret) {
				t.Errorf("Extract of a salt of %d bytes and %d bytes is not their Hmac", saltLen, n)
			}
		}
	}
}

func TestNoSaltIsNoughts(t *testing.T) {
	secret := drawn(40, 8)
	want := mac.Hmac(make([]byte, 32), secret)
	for _, salt := range [][]byte{nil, {}, drawn(9, 1)[:0], make([]byte, 32)} {
		if got := mac.Extract(salt, secret); got != want {
			t.Errorf("Extract = %x, want %x", got, want)
		}
	}
}

func TestExpandOfEveryLength(t *testing.T) {
	for n := range 200 {
		key := api.Key(drawn(32, int64(n)))
		for _, infoLen := range []int{0, 1, 31, 64, 100} {
			info := drawn(infoLen, int64(n+infoLen))
			if got, want := mac.Expand(key, info, n), wantExpand(t, key, info, n); !bytes.Equal(got, want) {
				t.Errorf("Expand by info of %d bytes, %d bytes = %x, want %x", infoLen, n, got, want)
			}
		}
	}
}

func TestExpandToTheEnd(t *testing.T) {
	key, info := api.Key(drawn(32, 9)), []byte("info")
	for _, n := range []int{8127, 8128, 8129, 8159, 8160} {
		got := mac.Expand(key, info, n)
		if len(got) != n || !bytes.Equal(got, wantExpand(t, key, info, n)) {
			t.Errorf("Expand to %d bytes: %d others", n, len(got))
		}
	}
}

// outside are numbers too small and too great, some of which would wrap round if they were reckoned with.
func outside(most int) []int {
	return []int{
		math.MinInt, math.MinInt + 1, math.MinInt + 31, math.MinInt / 32, math.MinInt32, -8160, -255, -32, -1,
		most + 1, most + 2, most + 32, 2 * most, math.MaxInt32, math.MaxInt/32 + 1, math.MaxInt - 31, math.MaxInt - 30, math.MaxInt,
	}
}

func TestExpandOutsideIsNothing(t *testing.T) {
	for _, n := range outside(8160) {
		if got := mac.Expand(api.Key{1}, []byte("info"), n); len(got) != 0 {
			t.Errorf("Expand to %d bytes: %d", n, len(got))
		}
	}
	if got := mac.Expand(api.Key{1}, []byte("info"), 0); len(got) != 0 {
		t.Errorf("Expand to no bytes: %d", len(got))
	}
}

func TestExpandedFurtherBeginsTheSame(t *testing.T) {
	key, info := api.Key(drawn(32, 10)), drawn(50, 11)
	all := mac.Expand(key, info, 8160)
	for n := range 8161 {
		if n > 200 && n < 8000 && n%97 != 0 {
			continue
		}
		if !bytes.Equal(mac.Expand(key, info, n), all[:n]) {
			t.Errorf("%d bytes are not the first of all", n)
		}
	}
}

// TestExpandByItsParts goes the chapter's own way, part by part.
func TestExpandByItsParts(t *testing.T) {
	key, info := api.Key(drawn(32, 12)), drawn(20, 13)
	all := mac.Expand(key, info, 8160)
	var last []byte
	for i := 1; i <= 255; i++ {
		part := mac.Hmac(key[:], append(append(bytes.Clone(last), info...), byte(i)))
		if !bytes.Equal(all[32*(i-1):32*i], part[:]) {
			t.Fatalf("part %d is another", i)
		}
		last = part[:]
	}
}

func TestKeysAreCutFromOneExpansion(t *testing.T) {
	salt, secret, info := drawn(10, 14), drawn(70, 15), drawn(30, 16)
	for n := range 256 {
		if n > 10 && n < 250 && n%17 != 0 {
			continue
		}
		keys := mac.Keys(salt, secret, info, n)
		if len(keys) != n {
			t.Fatalf("%d keys, want %d", len(keys), n)
		}
		want := wantExpand(t, wantExtract(t, salt, secret), info, 32*n)
		for i, key := range keys {
			if !bytes.Equal(key[:], want[32*i:32*(i+1)]) {
				t.Errorf("key %d of %d = %x, want %x", i, n, key, want[32*i:32*(i+1)])
			}
		}
	}
}

func TestKeysOutsideAreNothing(t *testing.T) {
	for _, n := range outside(255) {
		if got := mac.Keys([]byte("salt"), []byte("secret"), []byte("info"), n); len(got) != 0 {
			t.Errorf("%d keys: %d", n, len(got))
		}
	}
}

func TestEachArgumentOfKeysCounts(t *testing.T) {
	one := mac.Keys([]byte("a"), []byte("b"), []byte("c"), 1)[0]
	for _, other := range []api.Key{
		mac.Keys([]byte("x"), []byte("b"), []byte("c"), 1)[0],
		mac.Keys([]byte("a"), []byte("x"), []byte("c"), 1)[0],
		mac.Keys([]byte("a"), []byte("b"), []byte("x"), 1)[0],
		mac.Keys([]byte("b"), []byte("a"), []byte("c"), 1)[0],
		mac.Keys([]byte("a"), []byte("c"), []byte("b"), 1)[0],
		mac.Keys(nil, []byte("ab"), []byte("c"), 1)[0],
	} {
		if other == one {
			t.Error("other arguments, one key")
		}
	}
}

func TestSameOfAllLengths(t *testing.T) {
	all := drawn(80, 17)
	for n := range len(all) + 1 {
		for m := range len(all) + 1 {
			if got := mac.Same(all[:n], bytes.Clone(all[:m])); got != (n == m) {
				t.Errorf("the first %d and %d bytes: %v", n, m, got)
			}
		}
	}
}

// TestSameLooksAtEveryBit has bytes that are unalike in one bit, and then in the same one of two of them, which are not to make up for one another.
func TestSameLooksAtEveryBit(t *testing.T) {
	a := drawn(40, 18)
	for i := range 8 * len(a) {
		b := bytes.Clone(a)
		b[i/8] ^= 1 << (i % 8)
		if mac.Same(a, b) || mac.Same(b, a) {
			t.Errorf("bit %d is not looked at", i)
		}
		b[(i/8+7)%len(b)] ^= 1 << (i % 8)
		if mac.Same(a, b) || mac.Same(b, a) {
			t.Errorf("bit %d, twice, is not looked at", i)
		}
	}
}

// TestSameNeverComesRound: as many unalike bytes as would make a narrow sum nought.
func TestSameNeverComesRound(t *testing.T) {
	for _, n := range []int{2, 4, 8, 128, 256, 512, 1 << 16, 1 << 17, 1 << 24, 1 << 25} {
		for _, unalike := range []byte{0x80, 0xff, 1} {
			if mac.Same(make([]byte, n), bytes.Repeat([]byte{unalike}, n)) {
				t.Errorf("%d bytes of 0 and %x: the same", n, unalike)
			}
		}
	}
}

func TestSameOfPairs(t *testing.T) {
	for i := range 1 << 16 {
		x, y := byte(i), byte(i>>8)
		if got := mac.Same([]byte{x}, []byte{y}); got != (x == y) {
			t.Errorf("%x and %x: %v", x, y, got)
		}
		if got := mac.Same([]byte{x, y}, []byte{y, x}); got != (x == y) {
			t.Errorf("%x %x and %x %x: %v", x, y, y, x, got)
		}
	}
}

func TestNoBytesAreOneThing(t *testing.T) {
	empty := []byte{}
	if mac.Hmac(nil, nil) != mac.Hmac(empty, empty) {
		t.Error("Hmac")
	}
	if mac.Extract(nil, nil) != mac.Extract(empty, empty) {
		t.Error("Extract")
	}
	if !bytes.Equal(mac.Expand(api.Key{}, nil, 40), mac.Expand(api.Key{}, empty, 40)) {
		t.Error("Expand")
	}
	if mac.Keys(nil, nil, nil, 2)[1] != mac.Keys(empty, empty, empty, 2)[1] {
		t.Error("Keys")
	}
	if !mac.Same(nil, empty) || !mac.Same(empty, nil) || !mac.Same(nil, nil) {
		t.Error("Same")
	}
	if mac.Same(nil, []byte{0}) || mac.Same([]byte{0}, nil) {
		t.Error("Same: a nought is taken for nothing")
	}
}

// answers are what the calls say to pieces of one memory.
func answers(memory []byte, a, b, c int) []byte {
	x, y, z := memory[:a], memory[300:300+b], memory[600:600+c]
	var out []byte
	for _, key := range append(mac.Keys(x, y, z, 2), mac.Hmac(x, y), mac.Extract(y, z)) {
		out = append(out, key[:]...)
	}
	out = append(out, mac.Expand(api.Key{1}, z, 70)...)
	if mac.Same(x, y) {
		return append(out, 1)
	}
	return append(out, 0)
}

func TestArgumentsStayAndNothingBehindThemIsTouched(t *testing.T) {
	for _, lens := range [][3]int{{0, 0, 0}, {1, 1, 1}, {5, 5, 40}, {64, 32, 10}, {63, 64, 65}, {65, 100, 31}, {200, 1, 200}} {
		a, b, c := lens[0], lens[1], lens[2]
		memory := drawn(900, 19)
		before := bytes.Clone(memory)
		first := answers(memory, a, b, c)
		if !bytes.Equal(memory, before) {
			t.Errorf("%v bytes: memory changed", lens)
		}
		for i := range memory {
			if i >= a && i < 300 || i >= 300+b && i < 600 || i >= 600+c {
				memory[i] ^= 0xff
			}
		}
		if !bytes.Equal(answers(memory, a, b, c), first) {
			t.Errorf("%v bytes: what lies behind them counts", lens)
		}
	}
}

// TestNothingBehindWhatIsTold: memory behind an answer's length holds more of what was expanded, and nobody may come to it.
func TestNothingBehindWhatIsTold(t *testing.T) {
	for n := range 100 {
		if got := mac.Expand(api.Key{2}, nil, n); cap(got) != len(got) {
			t.Errorf("%d bytes: room for %d", n, cap(got))
		}
	}
}

func TestAnswersAreNewMemory(t *testing.T) {
	info := drawn(40, 20)
	first := mac.Expand(api.Key{3}, info, 64)
	want := bytes.Clone(first)
	keys := mac.Keys(info, info, info, 2)
	wantKey := keys[1]
	clear(first)
	keys[0], keys[1] = api.Key{9}, api.Key{9}
	if !bytes.Equal(mac.Expand(api.Key{3}, info, 64), want) {
		t.Error("Expand tells memory it told before")
	}
	if mac.Keys(info, info, info, 2)[1] != wantKey {
		t.Error("Keys tells memory it told before")
	}
	if !bytes.Equal(info, drawn(40, 20)) {
		t.Error("an argument changed")
	}
}

// TestNothingIsKept: an answer hangs on its own arguments alone, whatever else is asked at the same time.
func TestNothingIsKept(t *testing.T) {
	var all sync.WaitGroup
	for worker := range 8 {
		all.Go(func() {
			for n := range 100 {
				b := drawn(n, int64(worker))
				if mac.Hmac(b, b) != wantHmac(b, b) {
					t.Errorf("worker %d, %d bytes: another digest", worker, n)
				}
				if want := wantExpand(t, api.Key{byte(worker)}, b, n); !bytes.Equal(mac.Expand(api.Key{byte(worker)}, b, n), want) {
					t.Errorf("worker %d, %d bytes: expanded otherwise", worker, n)
				}
			}
		})
	}
	all.Wait()
}
