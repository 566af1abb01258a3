package seal_test

import (
	"bytes"
	stdaes "crypto/aes"
	"crypto/cipher"
	"crypto/hkdf"
	"crypto/hmac"
	"crypto/sha256"
	"encoding/binary"
	"encoding/hex"
	"math"
	"math/rand"
	"sync"
	"testing"

	"keyward/api"
	"keyward/seal"
)

// drawn is n bytes, the same ones at each run.
func drawn(n int, seed int64) []byte {
	b := make([]byte, n)
	rand.New(rand.NewSource(seed)).Read(b)
	return b
}

// count is 0, 1, 2 and so on.
func count(n int) []byte {
	b := make([]byte, n)
	for i := range b {
		b[i] = byte(i)
	}
	return b
}

func wantNonce(n uint64) [16]byte {
	var out [16]byte
	binary.BigEndian.PutUint64(out[:8], n)
	return out
}

// wantSeal is what the library makes of the chapter's words. It never fails: the library takes two keys, and keys of 32 bytes.
func wantSeal(key api.Key, n uint64, with, b []byte) []byte {
	keys, err := hkdf.Key(sha256.New, key[:], nil, "keyward seal", 64)
	if err != nil {
		panic(err)
	}
	c, err := stdaes.NewCipher(keys[:32])
	if err != nil {
		panic(err)
	}
	nonce := wantNonce(n)
	hidden := make([]byte, len(b))
	cipher.NewCTR(c, nonce[:]).XORKeyStream(hidden, b)
	h := hmac.New(sha256.New, keys[32:])
	h.Write(nonce[:])
	h.Write(with)
	h.Write(hidden)
	h.Write(binary.BigEndian.AppendUint64(nil, uint64(len(with))))
	return h.Sum(hidden)
}

// holdOpen wants what was hidden, holdShut an error with nothing beside it.
func holdOpen(t *testing.T, key api.Key, n uint64, with, sealed, want []byte) {
	t.Helper()
	got, err := seal.Open(key, n, with, sealed)
	if err != api.OK || !bytes.Equal(got, want) {
		t.Errorf("Open = %x, %d; want %x, 0", got, err, want)
	}
}

func holdShut(t *testing.T, key api.Key, n uint64, with, sealed []byte, want api.Errno) {
	t.Helper()
	got, err := seal.Open(key, n, with, sealed)
	if err != want || len(got) != 0 {
		t.Errorf("Open of %x = %x, %d; want nothing, %d", sealed, got, err, want)
	}
}

func TestNonce(t *testing.T) {
	for n, want := range map[uint64][16]byte{
		0:                  {},
		1:                  {7: 1},
		255:                {7: 255},
		256:                {6: 1},
		0x0102030405060708: {1, 2, 3, 4, 5, 6, 7, 8},
		1 << 63:            {0x80},
		math.MaxUint64:     {255, 255, 255, 255, 255, 255, 255, 255},
	} {
		if got := seal.Nonce(n); got != want {
			t.Errorf("Nonce(%d) = %x, want %x", n, got, want)
		}
	}
	for i := range 64 {
		for _, n := range []uint64{1 << i, 1<<i - 1, ^(1 << i)} {
			if got := seal.Nonce(n); got != wantNonce(n) {
				t.Errorf("Nonce(%x) = %x", n, got)
			}
		}
	}
}

// TestSealToTheByte has what another program made by the chapter's words.
func TestSealToTheByte(t *testing.T) {
	full := api.Key(bytes.Repeat([]byte{255}, 32))
	for _, c := range []struct {
		key     api.Key
		n       uint64
		with, b []byte
		want    string
	}{
		{api.Key{}, 0, nil, nil, "94ab17b505f97653b772793893e7439274a91fd4ccedd14c622ec0d90bb1511f"},
		{api.Key{1}, 2, []byte("x"), []byte("ab"), "4aef4527a3a6342e7fa125208bf261273f289281b7424adf0d53ddd60edad0e7cff5"},
		{
			api.Key(count(32)), 0x0102030405060708, []byte("bound to this"), []byte("The quick brown fox jumps over the lazy dog"),
			"9dc23f4f385d6bef0cd7399bf15e1e48df451f41c2ab8f8621a7882207f015ec866a1322f52bdc84c89fd3039aa3fe04044c37bdf96f29920ec501264fe2f2530959f487805e102930e077",
		},
		{
			full, math.MaxUint64, append(count(256), make([]byte, 44)...), count(33),
			"343dd1ae0d1c47ea70b8055af834087f7ec5f9ab1b5fa5001aae517f88713e1fd37bc22f8c6d3887612b1b80901664e6da97d271bd8362ddd8159e63179c105e9c",
		},
	} {
		got := seal.Seal(c.key, c.n, c.with, c.b)
		if hex.EncodeToString(got) != c.want {
			t.Errorf("Seal(%x, %d, %x, %x) = %x, want %s", c.key, c.n, c.with, c.b, got, c.want)
		}
		holdOpen(t, c.key, c.n, c.with, got, c.b)
	}
}

func TestSealAndOpenOfEveryLength(t *testing.T) {
	lengths := []int{0, 1, 15, 16, 17, 31, 32, 33, 255, 256, 257, 500}
	for n := range 150 {
		for _, m := range lengths {
			holdSeal(t, n, m)
			holdSeal(t, m, n)
		}
	}
	holdSeal(t, 70000, 3)
	holdSeal(t, 3, 70000)
}

func holdSeal(t *testing.T, withLen, n int) {
	t.Helper()
	key, number := api.Key(drawn(32, int64(n))), uint64(withLen)<<(n%56)
	with, b := drawn(withLen, int64(withLen)), drawn(n, int64(1000+n))
	got := seal.Seal(key, number, with, b)
	if !bytes.Equal(got, wantSeal(key, number, with, b)) {
		t.Errorf("Seal of %d bytes, bound to %d: other bytes", n, withLen)
	}
	holdOpen(t, key, number, with, got, b)
}

func TestSealByEveryBitOfNumber(t *testing.T) {
	key, with, b := api.Key(drawn(32, 1)), drawn(5, 2), drawn(40, 3)
	for i := range 64 {
		for _, n := range []uint64{1 << i, 1<<i - 1, ^(1 << i)} {
			got := seal.Seal(key, n, with, b)
			if !bytes.Equal(got, wantSeal(key, n, with, b)) {
				t.Errorf("number %x: other bytes", n)
			}
			holdOpen(t, key, n, with, got, b)
		}
	}
}

// TestExampleOfTheChapter has every other byte at every place.
func TestExampleOfTheChapter(t *testing.T) {
	key, with, b := api.Key{1}, []byte("x"), []byte("ab")
	sealed := seal.Seal(key, 2, with, b)
	holdOpen(t, key, 2, with, sealed, b)
	for i := range sealed {
		for change := 1; change < 256; change++ {
			other := bytes.Clone(sealed)
			other[i] ^= byte(change)
			holdShut(t, key, 2, with, other, api.ErrSeal)
		}
	}
}

func TestEveryBitIsBound(t *testing.T) {
	key, n, with, b := api.Key(drawn(32, 4)), uint64(77), drawn(20, 5), drawn(50, 6)
	sealed := seal.Seal(key, n, with, b)
	for i := range 8 * len(sealed) {
		other := bytes.Clone(sealed)
		other[i/8] ^= 1 << (i % 8)
		holdShut(t, key, n, with, other, api.ErrSeal)
	}
	for i := range 8 * len(key) {
		other := key
		other[i/8] ^= 1 << (i % 8)
		holdShut(t, other, n, with, sealed, api.ErrSeal)
	}
	for i := range 64 {
		holdShut(t, key, n^1<<i, with, sealed, api.ErrSeal)
	}
	for i := range 8 * len(with) {
		other := bytes.Clone(with)
		other[i/8] ^= 1 << (i % 8)
		holdShut(t, key, n, other, sealed, api.ErrSeal)
	}
	holdOpen(t, key, n, with, sealed, b)
}

// TestLengthsAreBound: one byte less, or one more, at either end is another thing.
func TestLengthsAreBound(t *testing.T) {
	key, with, b := api.Key(drawn(32, 7)), drawn(20, 8), drawn(50, 9)
	sealed := seal.Seal(key, 1, with, b)
	nought := []byte{0}
	for _, other := range [][]byte{nil, with[1:], with[:19], append(bytes.Clone(with), 0), append(nought, with...)} {
		holdShut(t, key, 1, other, sealed, api.ErrSeal)
	}
	for _, other := range [][]byte{append(bytes.Clone(sealed), 0), append(nought, sealed...)} {
		holdShut(t, key, 1, with, other, api.ErrSeal)
	}
	for cut := 1; cut <= len(sealed); cut++ {
		want := api.ErrSeal
		if len(sealed)-cut < 32 {
			want = api.ErrShort
		}
		holdShut(t, key, 1, with, sealed[cut:], want)
		holdShut(t, key, 1, with, sealed[:len(sealed)-cut], want)
	}
	none := seal.Seal(key, 1, nil, b)
	holdShut(t, key, 1, nought, none, api.ErrSeal)
}

// TestBytesDoNotPassFromOneToTheOther: with and what is hidden stand side by side where they are bound, so only the length tells them apart.
func TestBytesDoNotPassFromOneToTheOther(t *testing.T) {
	key, with, b := api.Key(drawn(32, 10)), drawn(300, 11), drawn(300, 12)
	sealed := seal.Seal(key, 1, with, b)
	for n := 1; n <= 300; n++ {
		longer := append(bytes.Clone(with), sealed[:n]...)
		holdShut(t, key, 1, longer, sealed[n:], api.ErrSeal)
		more := append(bytes.Clone(with[300-n:]), sealed...)
		holdShut(t, key, 1, with[:300-n], more, api.ErrSeal)
	}
}

func TestShort(t *testing.T) {
	holdShut(t, api.Key{}, 0, nil, nil, api.ErrShort)
	for n := range 32 {
		holdShut(t, api.Key{1}, 2, []byte("x"), drawn(n, 13), api.ErrShort)
		holdShut(t, api.Key{}, 0, nil, make([]byte, n), api.ErrShort)
	}
	for n := 32; n < 100; n++ {
		holdShut(t, api.Key{1}, 2, []byte("x"), drawn(n, 14), api.ErrSeal)
		holdShut(t, api.Key{}, 0, nil, make([]byte, n), api.ErrSeal)
	}
}

// TestShortIsByLengthAlone: bytes that lie behind the length do not make it long enough.
func TestShortIsByLengthAlone(t *testing.T) {
	sealed := seal.Seal(api.Key{3}, 4, nil, nil)
	for n := range 32 {
		holdShut(t, api.Key{3}, 4, nil, sealed[:n], api.ErrShort)
	}
	holdOpen(t, api.Key{3}, 4, nil, sealed, nil)
}

func TestNoBytesAreOneThing(t *testing.T) {
	empty := []byte{}
	none := seal.Seal(api.Key{5}, 6, nil, nil)
	if len(none) != 32 {
		t.Errorf("nothing sealed has %d bytes", len(none))
	}
	for _, with := range [][]byte{nil, empty, none[:0]} {
		for _, b := range [][]byte{nil, empty, none[:0]} {
			if !bytes.Equal(seal.Seal(api.Key{5}, 6, with, b), none) {
				t.Error("Seal tells nil and empty apart")
			}
		}
		holdOpen(t, api.Key{5}, 6, with, none, nil)
	}
	holdShut(t, api.Key{5}, 6, nil, empty, api.ErrShort)
}

// TestNumbersHideOtherwise: one text under neighbouring numbers, and far on in one of them, is never hidden by the same bytes.
func TestNumbersHideOtherwise(t *testing.T) {
	seen := map[string]int{}
	for n := range 50 {
		sealed := seal.Seal(api.Key{7}, uint64(n), nil, make([]byte, 16*20))
		for i := range 20 {
			part := string(sealed[16*i : 16*i+16])
			if before, came := seen[part]; came {
				t.Errorf("numbers %d and %d hide by the same bytes", before, n)
			}
			seen[part] = n
		}
	}
}

func TestArgumentsStayAndNothingBehindThemIsTouched(t *testing.T) {
	key := api.Key(drawn(32, 15))
	for _, lens := range [][2]int{{0, 0}, {1, 1}, {5, 16}, {16, 5}, {33, 31}, {64, 65}, {200, 200}} {
		withLen, n := lens[0], lens[1]
		memory := drawn(800, 16)
		with, b := memory[:withLen], memory[400:400+n]
		before := bytes.Clone(memory)
		sealed := seal.Seal(key, 1, with, b)
		if !bytes.Equal(memory, before) {
			t.Errorf("%v bytes: Seal changes memory", lens)
		}
		for i := range memory {
			if i >= withLen && i < 400 || i >= 400+n {
				memory[i] ^= 0xff
			}
		}
		if !bytes.Equal(seal.Seal(key, 1, with, b), sealed) {
			t.Errorf("%v bytes: what lies behind them counts", lens)
		}
		holdOpenInMemory(t, key, with, sealed, before[400:400+n])
	}
	if key != api.Key(drawn(32, 15)) {
		t.Error("the key changed")
	}
}

// holdOpenInMemory opens what lies among other bytes.
func holdOpenInMemory(t *testing.T, key api.Key, with, sealed, want []byte) {
	t.Helper()
	memory := drawn(800, 17)
	copy(memory[300:], sealed)
	before, withBefore := bytes.Clone(memory), bytes.Clone(with)
	holdOpen(t, key, 1, with, memory[300:300+len(sealed)], want)
	holdShut(t, key, 2, with, memory[300:300+len(sealed)], api.ErrSeal)
	if !bytes.Equal(memory, before) || !bytes.Equal(with, withBefore) {
		t.Errorf("%d bytes: Open changes memory", len(sealed))
	}
}

func TestAnswersAreNewMemory(t *testing.T) {
	key, with, b := api.Key{8}, drawn(10, 18), drawn(40, 19)
	sealed := seal.Seal(key, 9, with, b)
	want := bytes.Clone(sealed)
	clear(sealed)
	if !bytes.Equal(with, drawn(10, 18)) || !bytes.Equal(b, drawn(40, 19)) {
		t.Error("Seal tells an argument's memory")
	}
	sealed = seal.Seal(key, 9, with, b)
	clear(b)
	if !bytes.Equal(sealed, want) {
		t.Error("Seal tells memory that is another's")
	}
	opened, _ := seal.Open(key, 9, with, sealed)
	clear(opened)
	if !bytes.Equal(sealed, want) {
		t.Error("Open tells an argument's memory")
	}
	opened, _ = seal.Open(key, 9, with, sealed)
	again, _ := seal.Open(key, 9, with, sealed)
	clear(again)
	clear(sealed)
	if !bytes.Equal(opened, drawn(40, 19)) {
		t.Error("Open tells memory that is another's")
	}
}

// TestNothingIsKept: an answer hangs on its own arguments alone, whatever else is asked at the same time.
func TestNothingIsKept(t *testing.T) {
	var all sync.WaitGroup
	for worker := range 8 {
		all.Go(func() {
			for n := range 60 {
				holdSeal(t, worker, n)
				holdShut(t, api.Key{byte(worker)}, uint64(n), nil, drawn(32+n, int64(worker)), api.ErrSeal)
			}
		})
	}
	all.Wait()
}
