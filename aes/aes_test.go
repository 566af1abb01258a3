package aes_test

import (
	"bytes"
	stdaes "crypto/aes"
	"crypto/cipher"
	"encoding/hex"
	"math/big"
	"math/bits"
	"math/rand"
	"strings"
	"sync"
	"testing"

	"keyward/aes"
	"keyward/api"
)

// drawn is n bytes, the same ones at each run.
func drawn(n int, seed int64) []byte {
	b := make([]byte, n)
	rand.New(rand.NewSource(seed)).Read(b)
	return b
}

// unhex reads bytes; spaces are for the eye.
func unhex(t *testing.T, s string) []byte {
	t.Helper()
	b, err := hex.DecodeString(strings.ReplaceAll(s, " ", ""))
	if err != nil {
		t.Fatal(err)
	}
	return b
}

// product is a·b as the chapter multiplies: as polynomials first, and only then by 11b.
func product(a, b byte) byte {
	whole := 0
	for i := range 8 {
		if b>>i&1 == 1 {
			whole ^= int(a) << i
		}
	}
	for i := 14; i >= 8; i-- {
		if whole>>i&1 == 1 {
			whole ^= 0x11b << (i - 8)
		}
	}
	return byte(whole)
}

func wantBox(b byte) byte {
	i := byte(0)
	for c := range 256 {
		if product(b, byte(c)) == 1 {
			i = byte(c)
		}
	}
	return i ^ bits.RotateLeft8(i, 1) ^ bits.RotateLeft8(i, 2) ^ bits.RotateLeft8(i, 3) ^ bits.RotateLeft8(i, 4) ^ 0x63
}

// library never fails: it takes every key of 32 bytes.
func library(key api.Key) cipher.Block {
	c, err := stdaes.NewCipher(key[:])
	if err != nil {
		panic(err)
	}
	return c
}

func wantBlock(key api.Key, b [16]byte) [16]byte {
	var out [16]byte
	library(key).Encrypt(out[:], b[:])
	return out
}

func wantUnblock(key api.Key, b [16]byte) [16]byte {
	var out [16]byte
	library(key).Decrypt(out[:], b[:])
	return out
}

func wantCounter(key api.Key, first [16]byte, b []byte) []byte {
	out := make([]byte, len(b))
	cipher.NewCTR(library(key), first[:]).XORKeyStream(out, b)
	return out
}

// after is a block and n, as the chapter counts.
func after(first [16]byte, n int) [16]byte {
	sum := new(big.Int).SetBytes(first[:])
	sum.Add(sum, big.NewInt(int64(n)))
	sum.Mod(sum, new(big.Int).Lsh(big.NewInt(1), 128))
	var out [16]byte
	sum.FillBytes(out[:])
	return out
}

func TestExampleOfTheChapter(t *testing.T) {
	var key api.Key
	for i := range key {
		key[i] = byte(i)
	}
	b := [16]byte(unhex(t, "00 11 22 33 44 55 66 77 88 99 aa bb cc dd ee ff"))
	want := [16]byte(unhex(t, "8e a2 b7 ca 51 67 45 bf ea fc 49 90 4b 49 60 89"))
	if got := aes.Block(key, b); got != want {
		t.Errorf("Block = %x, want %x", got, want)
	}
	if got := aes.Unblock(key, want); got != b {
		t.Errorf("Unblock = %x, want %x", got, b)
	}
}

func TestBoxesAsPublished(t *testing.T) {
	for _, c := range [][2]byte{
		{0x00, 0x63}, {0x01, 0x7c}, {0x02, 0x77}, {0x03, 0x7b}, {0x10, 0xca}, {0x52, 0x00}, {0x53, 0xed},
		{0x63, 0xfb}, {0x7f, 0xd2}, {0x80, 0xcd}, {0x9a, 0xb8}, {0xf0, 0x8c}, {0xfe, 0xbb}, {0xff, 0x16},
	} {
		if got := aes.Box(c[0]); got != c[1] {
			t.Errorf("Box(%x) = %x, want %x", c[0], got, c[1])
		}
		if got := aes.Unbox(c[1]); got != c[0] {
			t.Errorf("Unbox(%x) = %x, want %x", c[1], got, c[0])
		}
	}
}

func TestBoxOfEveryByte(t *testing.T) {
	for i := range 256 {
		b := byte(i)
		if got, want := aes.Box(b), wantBox(b); got != want {
			t.Errorf("Box(%x) = %x, want %x", b, got, want)
		}
	}
}

func TestBoxesThereAndBack(t *testing.T) {
	var seen [256]bool
	for i := range 256 {
		b := byte(i)
		if got := aes.Unbox(aes.Box(b)); got != b {
			t.Errorf("Unbox of Box of %x = %x", b, got)
		}
		if got := aes.Box(aes.Unbox(b)); got != b {
			t.Errorf("Box of Unbox of %x = %x", b, got)
		}
		if seen[aes.Box(b)] {
			t.Errorf("Box(%x) came before", b)
		}
		seen[aes.Box(b)] = true
	}
}

func TestBlocksAsPublished(t *testing.T) {
	for _, c := range []struct{ key, b, want string }{
		{ // a block of noughts, by a key of noughts
			"0000000000000000000000000000000000000000000000000000000000000000",
			"00000000000000000000000000000000", "dc95c078a2408989ad48a21492842087",
		},
		{
			"603deb1015ca71be2b73aef0857d77811f352c073b6108d72d9810a30914dff4",
			"6bc1bee22e409f96e93d7e117393172a", "f3eed1bdb5d2a03c064b5a7e3db181f8",
		},
		{
			"603deb1015ca71be2b73aef0857d77811f352c073b6108d72d9810a30914dff4",
			"ae2d8a571e03ac9c9eb76fac45af8e51", "591ccb10d410ed26dc5ba74a31362870",
		},
		{
			"603deb1015ca71be2b73aef0857d77811f352c073b6108d72d9810a30914dff4",
			"30c81c46a35ce411e5fbc1191a0a52ef", "b6ed21b99ca6f4f9f153e7b1beafed1d",
		},
		{
			"603deb1015ca71be2b73aef0857d77811f352c073b6108d72d9810a30914dff4",
			"f69f2445df4f9b17ad2b417be66c3710", "23304b7a39f9f3ff067d8d8f9e24ecc7",
		},
	} {
		key, b, want := api.Key(unhex(t, c.key)), [16]byte(unhex(t, c.b)), [16]byte(unhex(t, c.want))
		if got := aes.Block(key, b); got != want {
			t.Errorf("Block(%x, %x) = %x, want %x", key, b, got, want)
		}
		if got := aes.Unblock(key, want); got != b {
			t.Errorf("Unblock(%x, %x) = %x, want %x", key, want, got, b)
		}
	}
}

// holdBlock asks Block and Unblock of one block, there, back, and back first.
func holdBlock(t *testing.T, key api.Key, b [16]byte) {
	t.Helper()
	hidden, shown := aes.Block(key, b), aes.Unblock(key, b)
	if want := wantBlock(key, b); hidden != want {
		t.Errorf("Block(%x, %x) = %x, want %x", key, b, hidden, want)
	}
	if want := wantUnblock(key, b); shown != want {
		t.Errorf("Unblock(%x, %x) = %x, want %x", key, b, shown, want)
	}
	if aes.Unblock(key, hidden) != b || aes.Block(key, shown) != b {
		t.Errorf("key %x, block %x: not there and back", key, b)
	}
}

func TestEachBitOfKeyAndBlock(t *testing.T) {
	key, b := api.Key(drawn(32, 1)), [16]byte(drawn(16, 2))
	for i := range 8 * len(key) {
		single, flipped := api.Key{}, key
		single[i/8] = 1 << (i % 8)
		flipped[i/8] ^= 1 << (i % 8)
		holdBlock(t, single, [16]byte{})
		holdBlock(t, flipped, b)
		if aes.Block(flipped, b) == aes.Block(key, b) {
			t.Errorf("bit %d of the key does not count", i)
		}
	}
	for i := range 8 * len(b) {
		single, flipped := [16]byte{}, b
		single[i/8] = 1 << (i % 8)
		flipped[i/8] ^= 1 << (i % 8)
		holdBlock(t, api.Key{}, single)
		holdBlock(t, key, flipped)
	}
}

func TestDrawnBlocks(t *testing.T) {
	for seed := range int64(3000) {
		b := drawn(48, seed)
		holdBlock(t, api.Key(b[:32]), [16]byte(b[32:]))
	}
}

func TestBlocksOfOneByte(t *testing.T) {
	for i := range 256 {
		all := bytes.Repeat([]byte{byte(i)}, 48)
		holdBlock(t, api.Key(all[:32]), [16]byte(all[32:]))
		holdBlock(t, api.Key{}, [16]byte(all[32:]))
		holdBlock(t, api.Key(all[:32]), [16]byte{})
	}
}

func TestCounterAsPublished(t *testing.T) {
	key := api.Key(unhex(t, "603deb1015ca71be2b73aef0857d77811f352c073b6108d72d9810a30914dff4"))
	first := [16]byte(unhex(t, "f0f1f2f3f4f5f6f7f8f9fafbfcfdfeff"))
	b := unhex(t, "6bc1bee22e409f96e93d7e117393172a ae2d8a571e03ac9c9eb76fac45af8e51 30c81c46a35ce411e5fbc1191a0a52ef f69f2445df4f9b17ad2b417be66c3710")
	want := unhex(t, "601ec313775789a5b7a7f504bbf3d228 f443e3ca4d62b59aca84e990cacaf5c5 2b0930daa23de94ce87017ba2d84988d dfc9c58db67aada613c2dd08457941a6")
	if got := aes.Counter(key, first, b); !bytes.Equal(got, want) {
		t.Errorf("Counter = %x, want %x", got, want)
	}
	if got := aes.Counter(key, first, want); !bytes.Equal(got, b) {
		t.Errorf("Counter = %x, want %x", got, b)
	}
}

func TestCounterOfEveryLength(t *testing.T) {
	for n := range 200 {
		key, first, b := api.Key(drawn(32, int64(n))), [16]byte(drawn(16, int64(1000+n))), drawn(n, int64(2000+n))
		got := aes.Counter(key, first, b)
		if want := wantCounter(key, first, b); !bytes.Equal(got, want) {
			t.Errorf("Counter of %d bytes = %x, want %x", n, got, want)
		}
		if !bytes.Equal(aes.Counter(key, first, got), b) {
			t.Errorf("%d bytes: not there and back", n)
		}
	}
}

// TestCounterIsBlocks goes the chapter's own way: over noughts Counter tells the blocks it takes.
func TestCounterIsBlocks(t *testing.T) {
	key, first := api.Key(drawn(32, 3)), [16]byte(drawn(16, 4))
	for n := range 65 {
		got := aes.Counter(key, first, make([]byte, n))
		for i := range got {
			if mask := aes.Block(key, after(first, i/16)); got[i] != mask[i%16] {
				t.Fatalf("%d noughts: byte %d = %x, want %x", n, i, got[i], mask[i%16])
			}
		}
	}
}

// TestCounterCarries begins below each place where one byte runs over into the one ahead, the last of them into nothing.
func TestCounterCarries(t *testing.T) {
	key, b := api.Key(drawn(32, 5)), drawn(16*5, 6)
	for place := range 17 {
		first := [16]byte(drawn(16, int64(place)))
		for i := place; i < 16; i++ {
			first[i] = 0xff
		}
		for back := range 4 {
			from := after(first, -back)
			if got, want := aes.Counter(key, from, b), wantCounter(key, from, b); !bytes.Equal(got, want) {
				t.Errorf("from %x: %x, want %x", from, got, want)
			}
		}
	}
}

func TestCounterBeginsAnewAtNought(t *testing.T) {
	key := api.Key(drawn(32, 7))
	greatest := [16]byte(bytes.Repeat([]byte{0xff}, 16))
	got := aes.Counter(key, greatest, make([]byte, 48))
	last, nought, one := aes.Block(key, greatest), aes.Block(key, [16]byte{}), aes.Block(key, [16]byte{15: 1})
	if want := bytes.Join([][]byte{last[:], nought[:], one[:]}, nil); !bytes.Equal(got, want) {
		t.Errorf("Counter = %x, want %x", got, want)
	}
}

func TestCounterGoesOn(t *testing.T) {
	key, first, b := api.Key(drawn(32, 8)), [16]byte{14: 0xff, 15: 0xf0}, drawn(1<<20+5, 9)
	got := aes.Counter(key, first, b)
	if !bytes.Equal(got, wantCounter(key, first, b)) {
		t.Error("a megabyte: other bytes")
	}
	for _, blocks := range []int{1, 15, 16, 17, 255, 256, 4096, 65536} {
		rest := aes.Counter(key, after(first, blocks), b[16*blocks:])
		if !bytes.Equal(got[16*blocks:], rest) {
			t.Errorf("behind %d blocks it goes on otherwise", blocks)
		}
	}
}

func TestCounterOfNoBytes(t *testing.T) {
	for _, b := range [][]byte{nil, {}, drawn(20, 1)[:0]} {
		if got := aes.Counter(api.Key{1}, [16]byte{2}, b); len(got) != 0 || cap(got) != 0 {
			t.Errorf("%d bytes, room for %d", len(got), cap(got))
		}
	}
}

func TestArgumentsStayAndNothingBehindThemIsTouched(t *testing.T) {
	key, first := api.Key(drawn(32, 10)), [16]byte(drawn(16, 11))
	for _, n := range []int{0, 1, 15, 16, 17, 31, 32, 33, 100} {
		memory := drawn(200, 12)
		before := bytes.Clone(memory)
		got := aes.Counter(key, first, memory[:n])
		if !bytes.Equal(memory, before) {
			t.Errorf("%d bytes: memory changed", n)
		}
		if len(got) != n || cap(got) != n {
			t.Errorf("%d bytes: %d, room for %d", n, len(got), cap(got))
		}
		for i := n; i < len(memory); i++ {
			memory[i] ^= 0xff
		}
		if !bytes.Equal(aes.Counter(key, first, memory[:n]), got) {
			t.Errorf("%d bytes: what lies behind them counts", n)
		}
	}
	if key != api.Key(drawn(32, 10)) || first != [16]byte(drawn(16, 11)) {
		t.Error("key or block changed")
	}
}

func TestAnswersAreNewMemory(t *testing.T) {
	b := drawn(40, 13)
	got := aes.Counter(api.Key{1}, [16]byte{}, b)
	want := bytes.Clone(got)
	clear(got)
	if !bytes.Equal(b, drawn(40, 13)) {
		t.Error("the answer is the argument's memory")
	}
	second := aes.Counter(api.Key{1}, [16]byte{}, b)
	clear(b)
	if !bytes.Equal(second, want) {
		t.Error("the answer shares memory with the argument, or with what was told before")
	}
}

// TestNothingIsKept: an answer hangs on its own arguments alone, whatever else is asked at the same time.
func TestNothingIsKept(t *testing.T) {
	var all sync.WaitGroup
	for worker := range 8 {
		all.Go(func() {
			for n := range 100 {
				b := drawn(48+n, int64(100*worker+n))
				key, first := api.Key(b[:32]), [16]byte(b[32:48])
				if !bytes.Equal(aes.Counter(key, first, b), wantCounter(key, first, b)) {
					t.Errorf("worker %d, %d bytes: other bytes", worker, len(b))
				}
				holdBlock(t, key, first)
			}
		})
	}
	all.Wait()
}
