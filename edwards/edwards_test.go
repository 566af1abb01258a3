package edwards_test

import (
	"crypto/ed25519"
	"crypto/sha512"
	"encoding/hex"
	"math/big"
	"math/rand"
	"testing"

	"keyward/api"
	"keyward/edwards"
	"keyward/field"
)

const full = 1<<64 - 1

// What the chapter's words come to, as words written out by hand.
var (
	nothing = api.Point{Y: api.Fe{1}}
	minus1  = api.Fe{full - 19, full, full, full >> 1}                                               // P - 1
	p       = api.Fe{full - 18, full, full, full >> 1}                                               // 2^255 - 19
	most    = api.Fe{full, full, full, full}                                                         // 2^256 - 1
	rootM1  = api.Fe{0xc4ee1b274a0ea0b0, 0x2f431806ad2fe478, 0x2b4d00993dfbd7a7, 0x2b8324804fc1df0b} // a root of -1, even
	half    = api.Point{Y: minus1}                                                                   // twice this is nothing
	quarter = api.Point{X: rootM1}                                                                   // four times this is nothing
	order   = "edd3f55c1a631258d69cf7a2def9de1400000000000000000000000000000010"                     // of Base: 2^252 + 277..
	eighths = []string{"26e8958fc2b227b045c3f489f2ef98f0d5dfac05d3c63339b13802886d53fc05", "c7176a703d4dd84fba3c0b760d10670f2a2053fa2c39ccc64ec7fd7792ac037a"}
)

func key(t *testing.T, text string) api.Key {
	t.Helper()
	b, err := hex.DecodeString(text)
	if err != nil || len(b) != 32 {
		t.Fatalf("%q is not a key", text)
	}
	return api.Key(b)
}

func small(n byte) api.Key { return api.Key{n} }

func number(x api.Fe) *big.Int {
	n := new(big.Int)
	for i := 3; i >= 0; i-- {
		n.Lsh(n, 64)
		n.Or(n, new(big.Int).SetUint64(x[i]))
	}
	return n
}

// words are n's, below 2^256, as they are.
func words(n *big.Int) api.Fe {
	n = new(big.Int).Set(n)
	var x api.Fe
	for i := range x {
		x[i] = new(big.Int).And(n, new(big.Int).SetUint64(full)).Uint64()
		n.Rsh(n, 64)
	}
	return x
}

// bytesOf is n, below 2^256, the least byte first.
func bytesOf(n *big.Int) api.Key {
	var k api.Key
	for i, v := range n.FillBytes(make([]byte, 32)) {
		k[31-i] = v
	}
	return k
}

func prime() *big.Int { return number(p) }

func product(of ...*big.Int) *big.Int {
	out := big.NewInt(1)
	for _, n := range of {
		out.Mul(out, n).Mod(out, prime())
	}
	return out
}

func sum(x, y *big.Int) *big.Int {
	out := new(big.Int).Add(x, y)
	return out.Mod(out, prime())
}

func negated(x *big.Int) *big.Int {
	out := new(big.Int).Neg(x)
	return out.Mod(out, prime())
}

func by(x, y *big.Int) *big.Int {
	return product(x, new(big.Int).ModInverse(y, prime()))
}

// curveNumber is -121665 by 121666, by the library's numbers alone.
func curveNumber() *big.Int { return by(big.NewInt(-121665), big.NewInt(121666)) }

// wantedOn, wantedAdd and wantedMul are the chapter's formulas, division by division, by the library's numbers.
func wantedOn(q api.Point) bool {
	x, y := number(q.X), number(q.Y)
	left := sum(negated(product(x, x)), product(y, y))
	right := sum(big.NewInt(1), product(curveNumber(), x, x, y, y))
	return left.Cmp(right) == 0
}

func wantedAdd(a, b api.Point) api.Point {
	if !wantedOn(a) || !wantedOn(b) {
		return nothing
	}
	ax, ay, bx, by0 := number(a.X), number(a.Y), number(b.X), number(b.Y)
	part := product(curveNumber(), ax, bx, ay, by0)
	one := big.NewInt(1)
	x := by(sum(product(ax, by0), product(ay, bx)), sum(one, part))
	y := by(sum(product(ay, by0), product(ax, bx)), sum(one, negated(part)))
	return api.Point{X: words(x), Y: words(y)}
}

func wantedMul(n api.Key, a api.Point) api.Point {
	out := nothing
	for _, v := range n {
		for i := range 8 {
			if v>>i&1 == 1 {
				out = wantedAdd(out, a)
			}
			a = wantedAdd(a, a)
		}
	}
	return out
}

// wantedDecode finds x another way than the chapter's: by a root of a number of the library's.
func wantedDecode(k api.Key) (api.Point, bool) {
	odd := uint(k[31] >> 7)
	k[31] &= 0x7f
	y := new(big.Int)
	for i := 31; i >= 0; i-- {
		y.Lsh(y, 8).Or(y, big.NewInt(int64(k[i])))
	}
	if y.Cmp(prime()) >= 0 {
		return api.Point{}, false
	}
	yy, one := product(y, y), big.NewInt(1)
	x := new(big.Int).ModSqrt(by(sum(yy, negated(one)), sum(product(curveNumber(), yy), one)), prime())
	if x == nil {
		return api.Point{}, false
	}
	if x.Bit(0) != odd {
		x = negated(x)
	}
	if x.Bit(0) != odd {
		return api.Point{}, false
	}
	return api.Point{X: words(x), Y: words(y)}, true
}

// again is q in words that are not CANON and count as much: P more in x, or in y, or in both.
func again(q api.Point) []api.Point {
	x, y := words(new(big.Int).Add(number(q.X), prime())), words(new(big.Int).Add(number(q.Y), prime()))
	return []api.Point{{X: x, Y: q.Y}, {X: q.X, Y: y}, {X: x, Y: y}}
}

// least are the eight points of which eight make nothing.
func least(t *testing.T) []api.Point {
	t.Helper()
	first, ok := wantedDecode(key(t, eighths[0]))
	if !ok {
		t.Fatal("no point of eight")
	}
	out := []api.Point{nothing}
	for len(out) < 8 {
		out = append(out, wantedAdd(out[len(out)-1], first))
	}
	return out
}

func randomKeys(seed int64, n int) []api.Key {
	source := rand.New(rand.NewSource(seed))
	out := make([]api.Key, n)
	for i := range out {
		source.Read(out[i][:])
	}
	return out
}

// points are on the curve: the eight, Base and what is near it, sums of both kinds, and some others, the same ones at each run.
func points(t *testing.T, others int) []api.Point {
	t.Helper()
	out := least(t)
	b := publishedBase()
	out = append(out, b, wantedAdd(b, b), wantedMul(small(3), b), wantedAdd(b, out[1]), wantedAdd(b, half))
	for _, k := range randomKeys(3, 8*others) {
		if q, ok := wantedDecode(k); ok && others > 0 {
			out = append(out, q)
			others--
		}
	}
	return out
}

// strays are points that are not on the curve.
func strays() []api.Point {
	b := publishedBase()
	return []api.Point{
		{}, {X: api.Fe{1}}, {X: api.Fe{1}, Y: api.Fe{1}}, {X: b.Y, Y: b.X}, {X: b.X}, {Y: b.Y}, {X: b.X, Y: api.Fe{1}},
		{X: api.Fe{b.X[0] + 1, b.X[1], b.X[2], b.X[3]}, Y: b.Y}, {X: b.X, Y: api.Fe{b.Y[0] ^ 1, b.Y[1], b.Y[2], b.Y[3]}},
		{X: b.X, Y: api.Fe{b.Y[0], b.Y[1], b.Y[2], b.Y[3] | 1<<63}}, {X: most, Y: most}, {X: p, Y: p}, {Y: p}, {Y: api.Fe{2}},
		{X: api.Fe{5, 6, 7, 8}, Y: api.Fe{9, 10, 11, 12}}, {X: minus1, Y: minus1},
	}
}

// publishedBase is Base as it was published with Ed25519.
func publishedBase() api.Point {
	x, _ := new(big.Int).SetString("15112221349535400772501151409588531511454012693041857206046113283949847762202", 10)
	y, _ := new(big.Int).SetString("46316835694926478169428394003475163141307993866256225615783033603165251855960", 10)
	return api.Point{X: words(x), Y: words(y)}
}

func TestD(t *testing.T) {
	published, _ := new(big.Int).SetString("37095705934669439343138083508754565189542113879843219016388785533085940283555", 10)
	if got := edwards.D(); got != words(published) || got != words(curveNumber()) {
		t.Errorf("D = %x", got)
	}
	if got, want := field.Mul(edwards.D(), field.Small(121666)), field.Neg(field.Small(121665)); got != want {
		t.Errorf("D by 121666 is %x, want %x", got, want)
	}
}

func TestBase(t *testing.T) {
	b := edwards.Base()
	if b != publishedBase() {
		t.Errorf("Base = %x", b)
	}
	if !edwards.On(b) || b.X[0]&1 != 0 || b.X != field.Canon(b.X) {
		t.Errorf("Base's x is %x: not On, not even or not CANON", b.X)
	}
	if b.Y != field.Mul(field.Small(4), field.Inv(field.Small(5))) {
		t.Errorf("Base's y is %x: not 4 by 5", b.Y)
	}
}

func TestOn(t *testing.T) {
	for _, q := range points(t, 30) {
		if !edwards.On(q) {
			t.Errorf("On(%x) is false", q)
		}
		for _, same := range again(q) {
			if !edwards.On(same) {
				t.Errorf("On(%x) is false: its numbers are not CANON, but count as much", same)
			}
		}
		for _, other := range []api.Point{
			{X: field.Add(q.X, field.Small(1)), Y: q.Y}, {X: q.X, Y: field.Add(q.Y, field.Small(1))}, {X: q.Y, Y: q.X},
			{X: field.Neg(q.X), Y: q.Y}, {X: q.X, Y: field.Neg(q.Y)}, {X: field.Neg(q.X), Y: field.Neg(q.Y)},
		} {
			if got, want := edwards.On(other), wantedOn(other); got != want {
				t.Errorf("On(%x) = %v", other, got)
			}
		}
	}
	for _, q := range strays() {
		if edwards.On(q) || wantedOn(q) {
			t.Errorf("On(%x) is true", q)
		}
	}
}

func TestAdd(t *testing.T) {
	all := points(t, 8)
	for _, a := range all {
		for _, b := range all {
			got := edwards.Add(a, b)
			if want := wantedAdd(a, b); got != want {
				t.Errorf("Add(%x, %x) = %x, want %x", a, b, got, want)
			}
			if !edwards.On(got) {
				t.Errorf("Add(%x, %x) is not On", a, b)
			}
		}
	}
}

func TestAddByHand(t *testing.T) {
	b, three := edwards.Base(), field.Neg(rootM1)
	for _, c := range []struct {
		name            string
		one, other, sum api.Point
	}{
		{"nothing and nothing", nothing, nothing, nothing},
		{"Base and nothing", b, nothing, b},
		{"nothing and Base", nothing, b, b},
		{"Base and its Neg", b, edwards.Neg(b), nothing},
		{"half and half", half, half, nothing},
		{"quarter and quarter", quarter, quarter, half},
		{"quarter and half", quarter, half, api.Point{X: three}},
		{"three quarters and quarter", api.Point{X: three}, quarter, nothing},
		{"Base and half", b, half, api.Point{X: field.Neg(b.X), Y: field.Neg(b.Y)}},
	} {
		if got := edwards.Add(c.one, c.other); got != c.sum {
			t.Errorf("%s: %x, want %x", c.name, got, c.sum)
		}
	}
}

func TestAddTellsCanon(t *testing.T) {
	b := edwards.Base()
	twice := edwards.Add(b, b)
	for _, same := range again(b) {
		for _, other := range append(again(b), b) {
			if got := edwards.Add(same, other); got != twice {
				t.Errorf("Add(%x, %x) = %x, want %x", same, other, got, twice)
			}
		}
		for _, zero := range append(again(nothing), nothing, api.Point{X: api.Fe{full - 37, full, full, full}, Y: api.Fe{1}}) {
			if got := edwards.Add(same, zero); got != b {
				t.Errorf("Add(%x, %x) = %x, want Base", same, zero, got)
			}
			if got := edwards.Add(zero, same); got != b {
				t.Errorf("Add(%x, %x) = %x, want Base", zero, same, got)
			}
		}
	}
}

func TestAddInAnyOrder(t *testing.T) {
	some := points(t, 2)
	for i, a := range some {
		for j, b := range some {
			both := edwards.Add(a, b)
			if both != edwards.Add(b, a) {
				t.Errorf("%x and %x: not the same the other way round", a, b)
			}
			c := some[(3*i+5*j+1)%len(some)]
			if edwards.Add(both, c) != edwards.Add(a, edwards.Add(b, c)) {
				t.Errorf("%x, %x and %x: sums differ", a, b, c)
			}
		}
	}
}

func TestPointsThatAreNotOnTellNothing(t *testing.T) {
	b := edwards.Base()
	for _, q := range strays() {
		for _, other := range append(strays(), b, nothing, half) {
			if got := edwards.Add(q, other); got != nothing {
				t.Errorf("Add(%x, %x) = %x", q, other, got)
			}
			if got := edwards.Add(other, q); got != nothing {
				t.Errorf("Add(%x, %x) = %x", other, q, got)
			}
		}
		if got := edwards.Neg(q); got != nothing {
			t.Errorf("Neg(%x) = %x", q, got)
		}
		for _, n := range []api.Key{{}, {1}, {2}, {31: 0x80}, bytesOf(number(most))} {
			if got := edwards.Mul(n, q); got != nothing {
				t.Errorf("Mul(%x, %x) = %x", n, q, got)
			}
		}
	}
}

func TestNeg(t *testing.T) {
	for _, q := range points(t, 20) {
		want := api.Point{X: words(negated(number(q.X))), Y: q.Y}
		if got := edwards.Neg(q); got != want {
			t.Errorf("Neg(%x) = %x, want %x", q, got, want)
		}
		for _, same := range again(q) {
			if got := edwards.Neg(same); got != want {
				t.Errorf("Neg(%x) = %x, want %x", same, got, want)
			}
		}
		if got := edwards.Neg(want); got != q {
			t.Errorf("Neg(%x) = %x, want %x", want, got, q)
		}
		if got := edwards.Add(q, want); got != nothing {
			t.Errorf("%x and its Neg: %x", q, got)
		}
	}
}

func TestMulIsAddAsOften(t *testing.T) {
	for _, q := range points(t, 2) {
		total := nothing
		for n := range 40 {
			if got := edwards.Mul(small(byte(n)), q); got != total {
				t.Errorf("Mul(%d, %x) = %x, want %x", n, q, got, total)
			}
			total = edwards.Add(total, q)
		}
	}
}

func TestMul(t *testing.T) {
	some := points(t, 2)
	numbers := append(randomKeys(4, 4), api.Key{}, api.Key{255}, api.Key{0, 1}, api.Key{31: 1}, api.Key{31: 0x40}, api.Key{31: 0x80},
		api.Key{15: 0x80, 16: 1}, key(t, order), bytesOf(prime()), bytesOf(number(most)))
	for i, n := range numbers {
		for j, q := range some {
			if (i+j)%4 != 0 {
				continue
			}
			if got, want := edwards.Mul(n, q), wantedMul(n, q); got != want {
				t.Errorf("Mul(%x, %x) = %x, want %x", n, q, got, want)
			}
		}
	}
}

// Each bit counts, and for what its place says: the bits' own points make Mul of them all.
func TestMulOfEachBit(t *testing.T) {
	b := edwards.Base()
	want := b
	for i := range 256 {
		var n api.Key
		n[i/8] = 1 << (i % 8)
		if got := edwards.Mul(n, b); got != want {
			t.Errorf("Mul of bit %d alone: %x, want %x", i, got, want)
		}
		want = edwards.Add(want, want)
	}
}

func TestMulGoesByTheNumberItself(t *testing.T) {
	b := edwards.Base()
	all := key(t, order)
	oneMore, oneLess := all, all
	oneMore[0]++
	oneLess[0]--
	eight := least(t)
	for _, c := range []struct {
		name string
		n    api.Key
		q    api.Point
		want api.Point
	}{
		{"order, Base", all, b, nothing},
		{"order + 1, Base", oneMore, b, b},
		{"order - 1, Base", oneLess, b, edwards.Neg(b)},
		{"0, Base", api.Key{}, b, nothing},
		{"1, Base", small(1), b, b},
		{"2, Base", small(2), b, edwards.Add(b, b)},
		{"order, an eighth: not cut down by the order", all, eight[1], eight[5]},
		{"order, Base and an eighth", all, edwards.Add(b, eight[1]), eight[5]},
		{"8, an eighth", small(8), eight[1], nothing},
		{"4, an eighth", small(4), eight[1], half},
		{"7, an eighth: its low bits count", small(7), eight[1], eight[7]},
		{"2^255, Base: its highest bit counts", api.Key{31: 0x80}, b, wantedMul(api.Key{31: 0x80}, b)},
		{"2^256 - 1, half", bytesOf(number(most)), half, half},
		{"2^256 - 1, quarter", bytesOf(number(most)), quarter, edwards.Neg(quarter)},
		{"2^256 - 1, nothing", bytesOf(number(most)), nothing, nothing},
	} {
		if got := edwards.Mul(c.n, c.q); got != c.want {
			t.Errorf("Mul of %s: %x, want %x", c.name, got, c.want)
		}
	}
}

func TestMulTellsCanon(t *testing.T) {
	for _, q := range points(t, 1) {
		for _, same := range again(q) {
			if got := edwards.Mul(small(1), same); got != q {
				t.Errorf("Mul(1, %x) = %x, want %x", same, got, q)
			}
			if got, want := edwards.Mul(small(6), same), edwards.Mul(small(6), q); got != want {
				t.Errorf("Mul(6, %x) = %x, want %x", same, got, want)
			}
		}
	}
}

// The library's keys of signatures are Encode of Mul of a number and Base.
func TestMulOfBaseIsPublished(t *testing.T) {
	for _, seed := range append(randomKeys(5, 20), api.Key{}, bytesOf(number(most))) {
		digest := sha512.Sum512(seed[:])
		n := api.Key(digest[:32])
		n[0] &^= 7
		n[31] = n[31]&0x3f | 0x40
		want := api.Key(ed25519.NewKeyFromSeed(seed[:]).Public().(ed25519.PublicKey))
		q := edwards.Mul(n, edwards.Base())
		if got := edwards.Encode(q); got != want {
			t.Errorf("of the seed %x: %x, want %x", seed, got, want)
		}
		if got, ok := edwards.Decode(want); !ok || got != q {
			t.Errorf("Decode(%x) = %x, %v, want %x", want, got, ok, q)
		}
	}
}

func TestEncodeOfBase(t *testing.T) {
	var want api.Key
	for i := range want {
		want[i] = 0x66
	}
	want[0] = 0x58
	if got := edwards.Encode(edwards.Base()); got != want {
		t.Errorf("Encode(Base) = %x", got)
	}
	want[31] |= 0x80
	if got := edwards.Encode(edwards.Neg(edwards.Base())); got != want {
		t.Errorf("Encode(Neg(Base)) = %x", got)
	}
}

// Encode asks not whether a point is On.
func TestEncodeByHand(t *testing.T) {
	top := func(k api.Key) api.Key {
		k[31] |= 0x80
		return k
	}
	for _, c := range []struct {
		name string
		q    api.Point
		want api.Key
	}{
		{"noughts", api.Point{}, api.Key{}},
		{"0, 1", nothing, small(1)},
		{"1, 0", api.Point{X: api.Fe{1}}, api.Key{31: 0x80}},
		{"2, 0", api.Point{X: api.Fe{2}}, api.Key{}},
		{"3, 5", api.Point{X: api.Fe{3}, Y: api.Fe{5}}, api.Key{0: 5, 31: 0x80}},
		{"P, 0: x counts as 0", api.Point{X: p}, api.Key{}},
		{"P + 1, 0: x counts as 1", api.Point{X: api.Fe{full - 17, full, full, full >> 1}}, api.Key{31: 0x80}},
		{"2P + 1, 0: x counts as 1", api.Point{X: api.Fe{full - 36, full, full, full}}, api.Key{31: 0x80}},
		{"2^256 - 1, 2^256 - 1: both count as 37", api.Point{X: most, Y: most}, api.Key{0: 37, 31: 0x80}},
		{"P - 1, P - 1", api.Point{X: minus1, Y: minus1}, bytesOf(number(minus1))},
		{"1, P - 1", api.Point{X: api.Fe{1}, Y: minus1}, top(bytesOf(number(minus1)))},
		{"0, P: y counts as 0", api.Point{Y: p}, api.Key{}},
		{"0, words", api.Point{Y: api.Fe{0x0807060504030201, 0, 0, 0x201f1e1d1c1b1a19}}, api.Key{1, 2, 3, 4, 5, 6, 7, 8, 24: 0x19, 25: 0x1a, 26: 0x1b, 27: 0x1c, 28: 0x1d, 29: 0x1e, 30: 0x1f, 31: 0x20}},
	} {
		if got := edwards.Encode(c.q); got != c.want {
			t.Errorf("Encode of %s: %x, want %x", c.name, got, c.want)
		}
	}
}

func TestEncodeTellsCanonBytes(t *testing.T) {
	for _, q := range points(t, 20) {
		want := bytesOf(number(q.Y))
		want[31] |= byte(q.X[0]&1) << 7
		for _, same := range append(again(q), q) {
			if got := edwards.Encode(same); got != want {
				t.Errorf("Encode(%x) = %x, want %x", same, got, want)
			}
		}
	}
}

func TestDecodeIsTheWayBack(t *testing.T) {
	for _, q := range points(t, 40) {
		for _, either := range []api.Point{q, edwards.Neg(q)} {
			if got, ok := edwards.Decode(edwards.Encode(either)); !ok || got != either {
				t.Errorf("Decode(Encode(%x)) = %x, %v", either, got, ok)
			}
		}
	}
}

func TestDecode(t *testing.T) {
	found, none := 0, 0
	for _, k := range randomKeys(6, 300) {
		got, ok := edwards.Decode(k)
		if want, there := wantedDecode(k); got != want || ok != there {
			t.Errorf("Decode(%x) = %x, %v, want %x, %v", k, got, ok, want, there)
		}
		if !ok {
			none++
			continue
		}
		found++
		if !edwards.On(got) || edwards.Encode(got) != k {
			t.Errorf("Decode(%x) = %x: not On, or of other bytes", k, got)
		}
	}
	if found < 100 || none < 100 {
		t.Errorf("found %d, none %d: too few to tell", found, none)
	}
}

// Small ones, and those just below and from P on, with either bit.
func TestDecodeEdges(t *testing.T) {
	var all []api.Key
	for n := range int64(60) {
		all = append(all, small(byte(n)), bytesOf(new(big.Int).Sub(prime(), big.NewInt(n))))
	}
	for n := range int64(19) {
		all = append(all, bytesOf(new(big.Int).Add(prime(), big.NewInt(n))))
	}
	for _, k := range all {
		for _, bit := range []byte{0, 0x80} {
			k[31] = k[31]&0x7f | bit
			got, ok := edwards.Decode(k)
			if want, there := wantedDecode(k); got != want || ok != there {
				t.Errorf("Decode(%x) = %x, %v, want %x, %v", k, got, ok, want, there)
			}
		}
	}
}

func TestDecodeByHand(t *testing.T) {
	plus := func(q api.Fe, n uint64) string {
		k := bytesOf(new(big.Int).Add(number(q), new(big.Int).SetUint64(n)))
		return hex.EncodeToString(k[:])
	}
	noughts := func(first, last string) string {
		return first + hex.EncodeToString(make([]byte, 30)) + last
	}
	for _, c := range []struct {
		name string
		k    string
		want api.Point
		ok   bool
	}{
		{"y 1", noughts("01", "00"), nothing, true},
		{"y 1, x of 0 and odd", noughts("01", "80"), api.Point{}, false},
		{"y -1", plus(minus1, 0), half, true},
		{"y -1, x of 0 and odd", plus(minus1, 0)[:62] + "ff", api.Point{}, false},
		{"y 0, x even", noughts("00", "00"), quarter, true},
		{"y 0, x odd", noughts("00", "80"), edwards.Neg(quarter), true},
		{"y 2: none", noughts("02", "00"), api.Point{}, false},
		{"y 2, odd: none", noughts("02", "80"), api.Point{}, false},
		{"y P, not CANON", plus(p, 0), api.Point{}, false},
		{"y P + 1, not CANON", plus(p, 1), api.Point{}, false},
		{"y P + 1, not CANON, odd", plus(p, 1)[:62] + "ff", api.Point{}, false},
		{"y P + 3, not CANON", plus(p, 3), api.Point{}, false},
		{"y 3", noughts("03", "00"), evenOf(t, 3), true},
		{"y 2^255 - 1, not CANON", plus(p, 18), api.Point{}, false},
		{"all ones", plus(most, 0), api.Point{}, false},
	} {
		if got, ok := edwards.Decode(key(t, c.k)); got != c.want || ok != c.ok {
			t.Errorf("Decode of %s: %x, %v, want %x, %v", c.name, got, ok, c.want, c.ok)
		}
	}
}

// evenOf is the point of a small y whose x is even, by another way.
func evenOf(t *testing.T, y byte) api.Point {
	t.Helper()
	q, ok := wantedDecode(small(y))
	if !ok {
		t.Fatalf("no point of y %d", y)
	}
	return q
}

// The published bytes of the points of which eight make nothing.
func TestPointsOfSmallOrder(t *testing.T) {
	for _, text := range eighths {
		for _, bit := range []byte{0, 0x80} {
			k := key(t, text)
			k[31] |= bit
			q, ok := edwards.Decode(k)
			if !ok || edwards.Mul(small(4), q) != half || edwards.Mul(small(8), q) != nothing {
				t.Errorf("Decode(%x) = %x, %v: no eighth", k, q, ok)
			}
		}
	}
}
