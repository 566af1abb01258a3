package sha_test

import (
	"bytes"
	"crypto/sha256"
	"crypto/sha512"
	"encoding/hex"
	"math"
	"math/big"
	"math/rand"
	"strings"
	"sync"
	"testing"

	"keyward/api"
	"keyward/sha"
)

// primes are the first n ones.
func primes(n int) []int64 {
	var out []int64
	for p := int64(2); len(out) < n; p++ {
		if big.NewInt(p).ProbablyPrime(0) {
			out = append(out, p)
		}
	}
	return out
}

// behindPoint is the first 64 binary digits behind the point of the root of p: the greatest r with r^degree at most
// p·2^(64·degree), without what stands ahead of the point.
func behindPoint(p int64, degree int) uint64 {
	n := new(big.Int).Lsh(big.NewInt(p), uint(64*degree))
	root := new(big.Int)
	for bit := 72; bit >= 0; bit-- {
		more := new(big.Int).SetBit(root, bit, 1)
		if new(big.Int).Exp(more, big.NewInt(int64(degree)), nil).Cmp(n) <= 0 {
			root = more
		}
	}
	return root.And(root, new(big.Int).SetUint64(math.MaxUint64)).Uint64()
}

func TestRoundIsOfCubeRoots(t *testing.T) {
	for i, p := range primes(80) {
		if got, want := sha.Round(i), behindPoint(p, 3); got != want {
			t.Errorf("Round(%d) = %x, want %x", i, got, want)
		}
	}
}

func TestBeginIsOfSquareRoots(t *testing.T) {
	for i, p := range primes(8) {
		if got, want := sha.Begin(i), behindPoint(p, 2); got != want {
			t.Errorf("Begin(%d) = %x, want %x", i, got, want)
		}
	}
}

func TestNumbersAsPublished(t *testing.T) {
	for _, c := range []struct {
		name      string
		got, want uint64
	}{
		{"Round(0)", sha.Round(0), 0x428a2f98d728ae22},
		{"Round(63)", sha.Round(63), 0xc67178f2e372532b},
		{"Round(64)", sha.Round(64), 0xca273eceea26619c},
		{"Round(79)", sha.Round(79), 0x6c44198c4a475817},
		{"Begin(0)", sha.Begin(0), 0x6a09e667f3bcc908},
		{"Begin(7)", sha.Begin(7), 0x5be0cd19137e2179},
	} {
		if c.got != c.want {
			t.Errorf("%s = %x, want %x", c.name, c.got, c.want)
		}
	}
}

func TestNoNumberOfAnyOtherPlace(t *testing.T) {
	for _, i := range []int{math.MinInt, math.MinInt + 1, math.MinInt32, -80, -8, -1, 80, 81, 88, 160, 256, math.MaxInt32, math.MaxInt} {
		if got := sha.Round(i); got != 0 {
			t.Errorf("Round(%d) = %x", i, got)
		}
	}
	for _, i := range []int{math.MinInt, math.MinInt + 1, math.MinInt32, -8, -1, 8, 9, 16, 79, 256, math.MaxInt32, math.MaxInt} {
		if got := sha.Begin(i); got != 0 {
			t.Errorf("Begin(%d) = %x", i, got)
		}
	}
}

func TestDigestsAsPublished(t *testing.T) {
	for _, c := range []struct{ in, want256, want512 string }{
		{
			"",
			"e3b0c44298fc1c149afbf4c8996fb92427ae41e4649b934ca495991b7852b855",
			"cf83e1357eefb8bdf1542850d66d8007d620e4050b5715dc83f4a921d36ce9ce47d0d13c5d85f2b0ff8318d2877eec2f63b931bd47417a81a538327af927da3e",
		},
		{
			"abc",
			"ba7816bf8f01cfea414140de5dae2223b00361a396177a9cb410ff61f20015ad",
			"ddaf35a193617abacc417349ae20413112e6fa4e89a97ea20a9eeee64b55d39a2192992a274fc1a836ba3c23a3feebbd454d4423643ce80e2a9ac94fa54ca49f",
		},
		{
			"abcdbcdecdefdefgefghfghighijhijkijkljklmklmnlmnomnopnopq",
			"248d6a61d20638b8e5c026930c3e6039a33ce45964ff2167f6ecedd419db06c1",
			"204a8fc6dda82f0a0ced7beb8e08a41657c16ef468b228a8279be331a703c33596fd15c13b1b07f9aa1d3bea57789ca031ad85c7a71dd70354ec631238ca3445",
		},
		{
			"abcdefghbcdefghicdefghijdefghijkefghijklfghijklmghijklmnhijklmnoijklmnopjklmnopqklmnopqrlmnopqrsmnopqrstnopqrstu",
			"cf5b16a778af8380036ce59e7b0492370b249b11e8f07a51afac45037afee9d1",
			"8e959b75dae313da8cf4f72814fc143f8f7779c6eb9f7fa17299aeadb6889018501d289e4900f7e4331b99dec4b5433ac7d329eeb6dd26545e96e55b874be909",
		},
		{
			strings.Repeat("a", 1000000),
			"cdc76e5c9914fb9281a1c7e284d73e67f1809a48a497200e046d39ccc7112cd0",
			"e718483d0ce769644e2e42c7bc15b4638e1f98b13b2044285632a803afa973ebde0ff244877ea60a4cb0432ce577c31beb009c5c2c49aa2e4eadb217ad8cc09b",
		},
	} {
		name := c.in
		if len(name) > 10 {
			name = name[:10] + ".."
		}
		small, great := sha.Sum256([]byte(c.in)), sha.Sum512([]byte(c.in))
		if got := hex.EncodeToString(small[:]); got != c.want256 {
			t.Errorf("Sum256(%q) = %s, want %s", name, got, c.want256)
		}
		if got := hex.EncodeToString(great[:]); got != c.want512 {
			t.Errorf("Sum512(%q) = %s, want %s", name, got, c.want512)
		}
	}
}

// check holds both digests of b against the library's.
func check(t *testing.T, b []byte) {
	t.Helper()
	if got, want := sha.Sum256(b), sha256.Sum256(b); got != api.Key(want) {
		t.Errorf("Sum256 of %d bytes = %x, want %x", len(b), got, want)
	}
	if got, want := sha.Sum512(b), sha512.Sum512(b); got != api.Sig(want) {
		t.Errorf("Sum512 of %d bytes = %x, want %x", len(b), got, want)
	}
}

// drawn is n bytes, the same ones at each run.
func drawn(n int, seed int64) []byte {
	b := make([]byte, n)
	rand.New(rand.NewSource(seed)).Read(b)
	return b
}

// TestEveryLength has all the ways in which bytes may fill their last BLOCK, of either digest, several times over.
func TestEveryLength(t *testing.T) {
	for n := range 530 {
		check(t, make([]byte, n))
		check(t, bytes.Repeat([]byte{0xff}, n))
		check(t, bytes.Repeat([]byte{0x80}, n))
		check(t, drawn(n, int64(n)))
	}
}

// TestLongerCounts has counts of bits that fill one byte more than those below them.
func TestLongerCounts(t *testing.T) {
	for _, n := range []int{1 << 13, 1 << 21} {
		long := drawn(n+1, 3)
		check(t, long[:n-1])
		check(t, long[:n])
		check(t, long)
	}
}

// TestCountBeyond32Bits is of so many bytes that their bits are no number of 32 bits.
func TestCountBeyond32Bits(t *testing.T) {
	if testing.Short() {
		t.Skip("takes some seconds")
	}
	b := make([]byte, 1<<29+5)
	var both sync.WaitGroup
	both.Go(func() {
		if got, want := sha.Sum256(b), sha256.Sum256(b); got != api.Key(want) {
			t.Errorf("Sum256 = %x, want %x", got, want)
		}
	})
	both.Go(func() {
		if got, want := sha.Sum512(b), sha512.Sum512(b); got != api.Sig(want) {
			t.Errorf("Sum512 = %x, want %x", got, want)
		}
	})
	both.Wait()
}

func TestDrawnBytes(t *testing.T) {
	source := rand.New(rand.NewSource(4))
	for range 300 {
		check(t, drawn(source.Intn(5000), source.Int63()))
	}
}

// seen tells whether either digest of b came before.
type seen struct {
	small map[api.Key]bool
	great map[api.Sig]bool
}

func (s seen) before(b []byte) bool {
	small, great := sha.Sum256(b), sha.Sum512(b)
	came := s.small[small] || s.great[great]
	s.small[small], s.great[great] = true, true
	return came
}

func TestEveryBitCounts(t *testing.T) {
	b := drawn(300, 5)
	digests := seen{map[api.Key]bool{}, map[api.Sig]bool{}}
	digests.before(b)
	for i := range 8 * len(b) {
		b[i/8] ^= 1 << (i % 8)
		if digests.before(b) {
			t.Errorf("bit %d does not count", i)
		}
		b[i/8] ^= 1 << (i % 8)
	}
}

func TestOrderCounts(t *testing.T) {
	b := make([]byte, 256)
	for i := range b {
		b[i] = byte(i)
	}
	digests := seen{map[api.Key]bool{}, map[api.Sig]bool{}}
	digests.before(b)
	for i := range b {
		for _, far := range []int{1, 4, 8, 64, 128} {
			if i+far >= len(b) {
				continue
			}
			b[i], b[i+far] = b[i+far], b[i]
			if digests.before(b) {
				t.Errorf("bytes %d and %d may change places", i, i+far)
			}
			b[i], b[i+far] = b[i+far], b[i]
		}
	}
}

func TestNoughtsAtTheEndCount(t *testing.T) {
	for _, first := range []byte{0, 0x80} {
		digests := seen{map[api.Key]bool{}, map[api.Sig]bool{}}
		b := make([]byte, 400)
		b[0] = first
		for n := 1; n <= len(b); n++ {
			if digests.before(b[:n]) {
				t.Errorf("%x and noughts, %d bytes: as of fewer", first, n)
			}
		}
	}
}

// TestPaddedBytesDiffer: bytes that end as if they had been filled up already are other bytes.
func TestPaddedBytesDiffer(t *testing.T) {
	b := drawn(20, 6)
	padded := make([]byte, 64)
	copy(padded, b)
	padded[20], padded[63] = 0x80, 160
	if sha.Sum256(b) == sha.Sum256(padded) {
		t.Error("Sum256 takes filled bytes for bare ones")
	}
	padded = make([]byte, 128)
	copy(padded, b)
	padded[20], padded[127] = 0x80, 160
	if sha.Sum512(b) == sha.Sum512(padded) {
		t.Error("Sum512 takes filled bytes for bare ones")
	}
}

func TestNoBytes(t *testing.T) {
	if sha.Sum256(nil) != sha.Sum256([]byte{}) || sha.Sum512(nil) != sha.Sum512([]byte{}) {
		t.Error("nil and an empty list differ")
	}
}

func TestArgumentStaysAndNothingBehindItIsTouched(t *testing.T) {
	for n := range 300 {
		memory := drawn(n+300, int64(n))
		before := bytes.Clone(memory)
		small, great := sha.Sum256(memory[:n]), sha.Sum512(memory[:n])
		if !bytes.Equal(memory, before) {
			t.Fatalf("%d bytes: memory changed", n)
		}
		for i := n; i < len(memory); i++ {
			memory[i] ^= 0xff
		}
		if sha.Sum256(memory[:n]) != small || sha.Sum512(memory[:n]) != great {
			t.Fatalf("%d bytes: what lies behind them counts", n)
		}
	}
}

// TestNothingIsKept: a digest hangs on its own bytes alone, whatever else is digested ahead of it or at the same time.
func TestNothingIsKept(t *testing.T) {
	var all sync.WaitGroup
	for worker := range 8 {
		all.Go(func() {
			for n := range 200 {
				b := drawn(n, int64(worker))
				if sha.Sum256(b) != api.Key(sha256.Sum256(b)) || sha.Sum512(b) != api.Sig(sha512.Sum512(b)) {
					t.Errorf("worker %d, %d bytes: another digest", worker, n)
				}
			}
		})
	}
	all.Wait()
}
