package lists_test

import (
	"bytes"
	"crypto/ed25519"
	"encoding/binary"
	"math"
	"math/rand"
	"reflect"
	"slices"
	"strings"
	"sync"
	"testing"

	"keyward/api"
	"keyward/lists"
	"keyward/sign"
	"keyward/wire"
)

const most = 1 << 40 // of a number

// times is a byte, n times over.
func times(b byte, n int) string { return strings.Repeat(string([]byte{b}), n) }

func key(b byte) api.Key { return api.Key([]byte(times(b, 32))) }

func sig(b byte) api.Sig { return api.Sig([]byte(times(b, 64))) }

func drawnKey(seed int64) api.Key {
	var k api.Key
	rand.New(rand.NewSource(seed)).Read(k[:])
	return k
}

// entries are devices of these IDs, each with a key of its own.
func entries(ids ...int) []api.Entry {
	var l []api.Entry
	for i, id := range ids {
		l = append(l, api.Entry{ID: id, Key: key(byte(100 + i))})
	}
	return l
}

// number is a number's bytes, clipped to what there is a way to write.
func number(n int) []byte { return binary.AppendUvarint(nil, uint64(min(max(n, 0), most))) }

// wantContent is what the chapter's words make of a list, without package wire.
func wantContent(l api.List) []byte {
	b := slices.Concat([]byte("keyward list"), number(l.Account), number(l.Version), l.Ident[:], number(len(l.Devices)))
	for _, e := range l.Devices {
		b = append(append(b, number(e.ID)...), e.Key[:]...)
	}
	return b
}

// wantVouching is what of a prekey is signed, likewise.
func wantVouching(device int, p api.Prekey) []byte {
	empty := times(0, 3) + times(0, 2+32+1+64) + times(0, 32) // three texts, a list, a token
	return slices.Concat([]byte("keyward prekey\x00\x00"), number(device), []byte(empty), number(p.ID), p.Key[:], []byte(times(0, 64+3)))
}

// wantPublic and wantSign are the library's.
func wantPublic(secret api.Key) api.Key {
	return api.Key(ed25519.NewKeyFromSeed(secret[:]).Public().(ed25519.PublicKey))
}

func wantSign(secret api.Key, b []byte) api.Sig {
	return api.Sig(ed25519.Sign(ed25519.NewKeyFromSeed(secret[:]), b))
}

// signed is a list as it is, but with that secret's Ident and the library's signature of it.
func signed(secret api.Key, l api.List) api.List {
	l.Ident = wantPublic(secret)
	l.Sig = wantSign(secret, wantContent(l))
	return l
}

// good is a right list.
func good() api.List {
	return signed(key(1), api.List{Account: 7, Version: 300, Devices: entries(2, 5, 300)})
}

func holdRight(t *testing.T, what string, l api.List, want bool) {
	t.Helper()
	if got := lists.Right(l); got != want {
		t.Errorf("%s: Right is %v of %+v", what, got, l)
	}
}

func same(a, b api.List) bool {
	return a.Account == b.Account && a.Version == b.Version && a.Ident == b.Ident && slices.Equal(a.Devices, b.Devices) && a.Sig == b.Sig
}

func TestContentToTheByte(t *testing.T) {
	l := api.List{Account: 1, Version: 300, Ident: key(7), Devices: []api.Entry{{ID: 5, Key: key(8)}, {ID: 200, Key: key(9)}}, Sig: sig(10)}
	want := "keyward list\x01\xac\x02" + times(7, 32) + "\x02\x05" + times(8, 32) + "\xc8\x01" + times(9, 32)
	if got := lists.Content(l); string(got) != want {
		t.Errorf("Content = %x, want %x", got, want)
	}
	if got := lists.Content(api.List{}); string(got) != "keyward list"+times(0, 35) {
		t.Errorf("Content of nothing = %x", got)
	}
	l.Sig = sig(11)
	if got := lists.Content(l); string(got) != want {
		t.Errorf("Content hangs on Sig: %x", got)
	}
}

// Content is told of any list, whether it may be or not.
func TestContentOfAnyList(t *testing.T) {
	numbers := []int{math.MinInt, -1, 0, 1, 127, 128, 1<<35 - 1, most - 1, most, most + 1, math.MaxInt}
	for _, n := range numbers {
		for _, l := range []api.List{{Account: n}, {Version: n}, {Devices: entries(n)}, {Account: n, Version: n, Ident: key(3), Devices: entries(3, n, n, 1), Sig: sig(4)}} {
			if got, want := lists.Content(l), wantContent(l); !bytes.Equal(got, want) {
				t.Errorf("Content of %+v = %x, want %x", l, got, want)
			}
		}
	}
	for _, n := range []int{0, 1, 7, 8, 9, 127, 128, 300, 60001} {
		l := api.List{Account: 1, Version: 2, Devices: make([]api.Entry, n), Sig: sig(255)}
		if got, want := lists.Content(l), wantContent(l); !bytes.Equal(got, want) {
			t.Errorf("Content of %d devices: %d bytes, want %d", n, len(got), len(want))
		}
	}
}

func TestSign(t *testing.T) {
	for i, l := range []api.List{
		{}, {Account: 1, Version: 1, Devices: entries(1)}, {Account: most, Version: 3, Ident: key(9), Devices: entries(1, 2, 3, 4, 5, 6, 7, 8), Sig: sig(9)},
		// What may not be is signed all the same, as it is.
		{Account: -3, Version: math.MaxInt, Devices: entries(5, 5, -1, 4, math.MinInt)}, {Account: most + 1, Devices: entries(1, 2, 3, 4, 5, 6, 7, 8, 9)}, good(),
	} {
		for _, secret := range []api.Key{{}, key(1), key(255), drawnKey(int64(i))} {
			got, want := lists.Sign(secret, l), signed(secret, l)
			if !same(got, want) {
				t.Errorf("Sign(%x, %+v) = %+v, want %+v", secret, l, got, want)
			}
		}
	}
}

// What is signed is the Content with the new Ident, not with the one that was handed in.
func TestSignTakesTheNewIdent(t *testing.T) {
	l := api.List{Account: 1, Version: 1, Ident: key(77), Devices: entries(1)}
	got := lists.Sign(key(2), l)
	if got.Sig == wantSign(key(2), wantContent(l)) || got.Ident != wantPublic(key(2)) {
		t.Errorf("Sign with another Ident = %+v", got)
	}
	holdRight(t, "another Ident ahead of Sign", got, true)
	if again := lists.Sign(key(3), got); !same(again, signed(key(3), l)) {
		t.Errorf("signed again: %+v", again)
	}
	if again := lists.Sign(key(2), got); !same(again, got) {
		t.Errorf("signed twice: %+v, and %+v", got, again)
	}
}

func TestRightNumbers(t *testing.T) {
	for n, want := range map[int]bool{
		math.MinInt: false, -1 << 40: false, -1: false, 0: false, 1: true, 2: true, 300: true, most - 1: true, most: true, most + 1: false, 2 * most: false,
		1<<41 + 1: false, math.MaxInt: false,
	} {
		for what, l := range map[string]api.List{
			"Account": {Account: n, Version: 1, Devices: entries(1)},
			"Version": {Account: 1, Version: n, Devices: entries(1)},
			"ID":      {Account: 1, Version: 1, Devices: entries(n)},
		} {
			holdRight(t, what, signed(key(1), l), want)
			holdRight(t, what+" by Sign", lists.Sign(key(1), l), want)
		}
	}
	// No two of the three stand for one another.
	holdRight(t, "the greatest everywhere", signed(key(1), api.List{Account: most, Version: most, Devices: entries(most)}), true)
	holdRight(t, "a Version below the IDs", signed(key(1), api.List{Account: 3, Version: 1, Devices: entries(8, 9)}), true)
}

// A number outside is written as the nearest within: its signature is that one's, but it may not be.
func TestRightTellsClippedNumbersApart(t *testing.T) {
	l := signed(key(1), api.List{Account: most, Version: most, Devices: entries(1, most)})
	holdRight(t, "the greatest numbers", l, true)
	for _, n := range []int{most + 1, math.MaxInt} {
		account, version, device := l, l, l
		account.Account, version.Version, device.Devices = n, n, slices.Clone(l.Devices)
		device.Devices[1].ID = n
		for what, other := range map[string]api.List{"Account": account, "Version": version, "ID": device} {
			if !bytes.Equal(lists.Content(other), lists.Content(l)) {
				t.Errorf("%s %d: another Content", what, n)
			}
			holdRight(t, what+" above the greatest", other, false)
		}
	}
}

func TestRightCountsDevices(t *testing.T) {
	ids := []int{}
	for n := range 200 {
		l := api.List{Account: 1, Version: 1, Devices: entries(ids...)}
		holdRight(t, "so many devices", signed(key(1), l), n >= 1 && n <= 8)
		ids = append(ids, n+1)
	}
}

func TestRightWantsIDsToRise(t *testing.T) {
	for _, c := range []struct {
		ids  []int
		want bool
	}{
		{[]int{1, 2}, true}, {[]int{1, most}, true}, {[]int{most - 1, most}, true}, {[]int{3, 9, 10, 400}, true}, {[]int{1, 2, 3, 4, 5, 6, 7, 8}, true},
		{[]int{1, 1}, false}, {[]int{2, 1}, false}, {[]int{0, 1}, false}, {[]int{-1, 1}, false}, {[]int{math.MinInt, 1}, false}, {[]int{1, 0}, false},
		{[]int{1, 2, 2}, false}, {[]int{1, 1, 2}, false}, {[]int{1, 3, 2}, false}, {[]int{2, 1, 3}, false}, {[]int{1, 2, 1}, false}, {[]int{5, 6, 5, 6}, false},
		{[]int{1, 2, 3, 4, 5, 6, 7, 7}, false}, {[]int{1, 2, 3, 4, 5, 6, 8, 7}, false}, {[]int{1, 2, 3, 4, 5, 6, 7, 0}, false}, {[]int{2, 3, 4, 5, 6, 7, 8, 1}, false},
		{[]int{most, most}, false}, {[]int{most, most + 1}, false}, {[]int{most + 1, most + 2}, false}, {[]int{1, math.MaxInt}, false}, {[]int{math.MaxInt, math.MinInt}, false},
	} {
		l := api.List{Account: 1, Version: 1, Devices: entries(c.ids...)}
		holdRight(t, "IDs", signed(key(1), l), c.want)
		// Their keys count for nothing: two may have the same.
		for i := range l.Devices {
			l.Devices[i].Key = api.Key{}
		}
		holdRight(t, "IDs with one key", signed(key(1), l), c.want)
	}
}

func TestRightNeedsTheSignature(t *testing.T) {
	l := good()
	holdRight(t, "a good list", l, true)
	holdRight(t, "nothing", api.List{}, false)
	unsigned := api.List{Account: 1, Version: 1, Ident: wantPublic(key(1)), Devices: entries(1)}
	holdRight(t, "not signed", unsigned, false)
	body := wantContent(l)
	for what, s := range map[string]api.Sig{
		"another secret's":      wantSign(key(2), body),
		"without the text":      wantSign(key(1), body[len("keyward list"):]),
		"of another text":       wantSign(key(1), append([]byte("keyward prekey"), body[len("keyward list"):]...)),
		"of a space more":       wantSign(key(1), append([]byte("keyward list "), body[len("keyward list"):]...)),
		"of all bytes":          wantSign(key(1), append([]byte("keyward list"), wire.List(l)...)),
		"of 64 noughts more":    wantSign(key(1), append(slices.Clone(body), make([]byte, 64)...)),
		"of a byte less":        wantSign(key(1), body[:len(body)-1]),
		"of the text alone":     wantSign(key(1), []byte("keyward list")),
		"of no bytes":           wantSign(key(1), nil),
		"of a prekey":           lists.Vouch(key(1), l.Account, api.Prekey{ID: l.Version, Key: l.Ident}),
		"noughts":               {},
		"of an older version":   signed(key(1), api.List{Account: 7, Version: 299, Devices: entries(2, 5, 300)}).Sig,
		"of another account":    signed(key(1), api.List{Account: 8, Version: 300, Devices: entries(2, 5, 300)}).Sig,
		"of a device less":      signed(key(1), api.List{Account: 7, Version: 300, Devices: entries(2, 5)}).Sig,
		"of a device more":      signed(key(1), api.List{Account: 7, Version: 300, Devices: entries(2, 5, 300, 301)}).Sig,
		"of devices changed":    signed(key(1), api.List{Account: 7, Version: 300, Devices: entries(5, 2, 300)}).Sig,
		"of numbers changed":    signed(key(1), api.List{Account: 300, Version: 7, Devices: entries(2, 5, 300)}).Sig,
		"of nothing but Ident":  signed(key(1), api.List{}).Sig,
		"of the secret's Ident": wantSign(l.Ident, body),
	} {
		other := l
		other.Sig = s
		holdRight(t, "a signature "+what, other, false)
	}
	// Signed again by another one, it is another one's list, and right.
	holdRight(t, "of another Ident", signed(key(2), l), true)
}

// By an Ident of small order a signature may be right though nobody has its secret: sign.Verify alone decides, as of any other.
func TestRightIsWhatVerifySays(t *testing.T) {
	told := map[bool]int{}
	for _, ident := range []api.Key{{}, {1}, api.Key([]byte("\xec" + times(255, 30) + "\x7f")), api.Key([]byte(times(255, 32))), {2}, drawnKey(9)} {
		for version := range 40 {
			for _, s := range []api.Sig{{}, api.Sig(slices.Concat(ident[:], make([]byte, 32))), {1}} {
				l := api.List{Account: 1, Version: version + 1, Ident: ident, Devices: entries(1), Sig: s}
				want := sign.Verify(ident, wantContent(l), s)
				holdRight(t, "nobody's", l, want)
				if got := lists.Vouched(ident, version, api.Prekey{}, s); got != sign.Verify(ident, wantVouching(version, api.Prekey{}), s) {
					t.Errorf("Vouched(%x, %d, %x) = %v", ident, version, s, got)
				}
				told[want]++
			}
		}
	}
	if told[true] < 20 || told[false] < 20 {
		t.Errorf("not both came: %v", told)
	}
}

// A list that is signed is right, and none that differs from it in a bit, however small.
func TestNoOtherListIsRight(t *testing.T) {
	l := lists.Sign(key(6), api.List{Account: 130, Version: 2, Devices: entries(1, 200)})
	b := wire.List(l)
	read := 0
	for i := range 8 * len(b) {
		bent := slices.Clone(b)
		bent[i/8] ^= 1 << (i % 8)
		if other, err := wire.ReadList(bent); err == api.OK {
			read++
			holdRight(t, "a bit bent", other, false)
		}
	}
	if read < 8*(3*32+64) {
		t.Errorf("only %d bent lists are lists", read)
	}
	again, err := wire.ReadList(b)
	if err != api.OK {
		t.Fatal(err)
	}
	holdRight(t, "there and back", again, true)
}

func TestNoOtherDevicesAreRight(t *testing.T) {
	l := good()
	for i := range l.Devices {
		other := l
		other.Devices = slices.Delete(slices.Clone(l.Devices), i, i+1)
		holdRight(t, "a device gone", other, false)
		for _, e := range []api.Entry{{ID: 1, Key: key(1)}, {ID: 4, Key: key(1)}, {ID: 301, Key: key(1)}} {
			other.Devices = slices.Insert(slices.Clone(l.Devices), i, e)
			holdRight(t, "a device more", other, false)
		}
		other.Devices = slices.Clone(l.Devices)
		other.Devices[i].ID++
		holdRight(t, "another ID", other, false)
		other.Devices[i].ID -= 2
		holdRight(t, "another ID", other, false)
		other.Devices[i] = l.Devices[(i+1)%3]
		holdRight(t, "one device twice", other, false)
		other.Devices[i] = l.Devices[i]
		other.Devices[i].Key, other.Devices[(i+1)%3].Key = l.Devices[(i+1)%3].Key, l.Devices[i].Key
		holdRight(t, "keys changed", other, false)
	}
}

func TestFind(t *testing.T) {
	l := api.List{Devices: []api.Entry{{ID: 5, Key: key(1)}, {ID: 3, Key: key(2)}, {ID: 5, Key: key(3)}, {ID: 0, Key: key(4)}, {ID: -1, Key: key(5)}, {ID: most + 1, Key: key(6)}, {ID: 9}, {ID: 9, Key: key(7)}, {ID: math.MinInt, Key: key(8)}}}
	for device, want := range map[int]byte{5: 1, 3: 2, 0: 4, -1: 5, most + 1: 6, 9: 0, math.MinInt: 8} {
		if k, ok := lists.Find(l, device); !ok || k != key(want) {
			t.Errorf("Find %d = %x, %v", device, k, ok)
		}
	}
	for _, device := range []int{1, 2, 4, 6, 8, -2, most, most + 2, math.MaxInt} {
		if k, ok := lists.Find(l, device); ok || k != (api.Key{}) {
			t.Errorf("Find %d = %x, %v", device, k, ok)
		}
	}
	for _, none := range []api.List{{}, {Devices: []api.Entry{}}, {Account: 1, Version: 1}, {Devices: l.Devices[:0]}} {
		if k, ok := lists.Find(none, 1); ok || k != (api.Key{}) {
			t.Errorf("Find in no devices = %x, %v", k, ok)
		}
	}
	for _, e := range good().Devices {
		if k, ok := lists.Find(good(), e.ID); !ok || k != e.Key {
			t.Errorf("Find %d of a good list = %x, %v", e.ID, k, ok)
		}
	}
}

// wantAdded and wantRemoved are the chapter's words, tried one by one.
func wantAdded(was, is []api.Entry) (api.Entry, bool) {
	for _, e := range is {
		if slices.Equal(append(slices.Clone(was), e), is) {
			return e, true
		}
	}
	return api.Entry{}, false
}

func wantRemoved(was, is []api.Entry) (api.Entry, bool) {
	for i, e := range was {
		if slices.Equal(slices.Delete(slices.Clone(was), i, i+1), is) {
			return e, true
		}
	}
	return api.Entry{}, false
}

func holdBoth(t *testing.T, was, is []api.Entry) {
	t.Helper()
	// Whose lists they are, and of which version, counts for nothing.
	before, after := api.List{Devices: was}, api.List{Account: 1, Version: -3, Ident: key(1), Devices: is, Sig: sig(2)}
	e, ok := lists.Added(before, after)
	if want, wantOk := wantAdded(was, is); e != want || ok != wantOk {
		t.Errorf("Added(%v, %v) = %v, %v; want %v, %v", was, is, e, ok, want, wantOk)
	}
	e, ok = lists.Removed(after, before)
	if want, wantOk := wantRemoved(is, was); e != want || ok != wantOk {
		t.Errorf("Removed(%v, %v) = %v, %v; want %v, %v", is, was, e, ok, want, wantOk)
	}
}

// TestAddedAndRemoved takes all lists of up to four entries, of which some have an ID, and some a key, in common.
func TestAddedAndRemoved(t *testing.T) {
	kinds := []api.Entry{{ID: 1, Key: key(1)}, {ID: 2, Key: key(1)}, {ID: 1, Key: key(2)}, {}}
	all := [][]api.Entry{nil}
	for from := 0; len(all) < 1+4+16+64+256; from++ {
		for _, e := range kinds {
			all = append(all, append(slices.Clone(all[from]), e))
		}
	}
	for _, was := range all {
		for _, is := range all {
			if d := len(is) - len(was); d >= -2 && d <= 2 {
				holdBoth(t, was, is)
			}
		}
	}
}

func TestAddedAndRemovedByHand(t *testing.T) {
	a, b, c, nought := api.Entry{ID: 1, Key: key(1)}, api.Entry{ID: 2, Key: key(2)}, api.Entry{ID: 3, Key: key(3)}, api.Entry{}
	type l = []api.Entry
	for _, x := range []struct{ less, more, added, removed l }{ // added, removed: none, or one
		{l{}, l{{ID: 1}}, l{{ID: 1}}, l{{ID: 1}}},
		{l{}, l{nought}, l{nought}, l{nought}},
		{l{a}, l{a, b}, l{b}, l{b}},
		{l{a, b}, l{a, b, c}, l{c}, l{c}},
		{l{a}, l{a, a}, l{a}, l{a}},
		{l{a, b}, l{a, b, b}, l{b}, l{b}},
		{l{a}, l{b, a}, nil, l{b}},
		{l{a, b}, l{a, c, b}, nil, l{c}},
		{l{a, b}, l{c, a, b}, nil, l{c}},
		{l{a, b}, l{a, a, b}, nil, l{a}},
		{l{b, a}, l{a, b, a}, nil, l{a}},
		{l{}, l{}, nil, nil},
		{l{a}, l{a}, nil, nil},
		{l{a}, l{b}, nil, nil},
		{l{}, l{a, b}, nil, nil},
		{l{a}, l{a, b, c}, nil, nil},
		{l{c}, l{a, b}, nil, nil},
		{l{a, b}, l{b, a, c}, nil, nil},
		{l{c, b}, l{a, b, c}, nil, nil},
		{l{nought}, l{a, b}, nil, nil},
	} {
		holdBoth(t, x.less, x.more)
		less, more := api.List{Devices: x.less}, api.List{Devices: x.more}
		added, ok := lists.Added(less, more)
		if ok != (len(x.added) == 1) || ok && added != x.added[0] || !ok && added != nought {
			t.Errorf("Added(%v, %v) = %v, %v", x.less, x.more, added, ok)
		}
		removed, ok := lists.Removed(more, less)
		if ok != (len(x.removed) == 1) || ok && removed != x.removed[0] || !ok && removed != nought {
			t.Errorf("Removed(%v, %v) = %v, %v", x.more, x.less, removed, ok)
		}
		// The other way round there is none.
		if len(x.more) == len(x.less)+1 {
			holdNone(t, more, less)
		}
	}
}

func holdNone(t *testing.T, more, less api.List) {
	t.Helper()
	if e, ok := lists.Added(more, less); ok || e != (api.Entry{}) {
		t.Errorf("Added(%v, %v) = %v, %v", more.Devices, less.Devices, e, ok)
	}
	if e, ok := lists.Removed(less, more); ok || e != (api.Entry{}) {
		t.Errorf("Removed(%v, %v) = %v, %v", less.Devices, more.Devices, e, ok)
	}
}

// Every bit of each entry counts, and lists that are longer than may be are taken like any other.
func TestEntriesAreTheSameBitByBit(t *testing.T) {
	long := make([]api.Entry, 3000)
	for i := range long {
		long[i] = api.Entry{ID: i / 2, Key: drawnKey(int64(i / 3))}
	}
	holdBoth(t, long[:2999], long)
	for _, i := range []int{0, 1, 1500, 2998, 2999} {
		less := slices.Delete(slices.Clone(long), i, i+1)
		if e, ok := lists.Removed(api.List{Devices: long}, api.List{Devices: less}); !ok || e != long[i] {
			t.Errorf("Removed of %d devices, without number %d = %v, %v", len(long), i, e, ok)
		}
	}
	is := entries(1, 2, 3, 4)
	for i := range is[:3] {
		for bit := range 64 + 256 {
			was := slices.Clone(is[:3])
			if bit < 64 {
				was[i].ID ^= 1 << bit
			} else {
				was[i].Key[(bit-64)/8] ^= 1 << (bit % 8)
			}
			holdBoth(t, was, is)
			if e, ok := lists.Added(api.List{Devices: was}, api.List{Devices: is}); ok || e != (api.Entry{}) {
				t.Errorf("bit %d of device %d doesn't count: %v", bit, i, e)
			}
		}
	}
}

func TestVouchToTheByte(t *testing.T) {
	p := api.Prekey{ID: 300, Key: key(8)}
	text := "keyward prekey" + "\x00\x00\x05" + times(0, 3) + times(0, 99) + times(0, 32) + "\xac\x02" + times(8, 32) + times(0, 67)
	if want := wantVouching(5, p); string(want) != text {
		t.Fatalf("by hand %x, by the reference %x", text, want)
	}
	if got, want := lists.Vouch(key(1), 5, p), wantSign(key(1), []byte(text)); got != want {
		t.Errorf("Vouch = %x, want %x", got, want)
	}
	for _, secret := range []api.Key{{}, key(1), key(255), drawnKey(1)} {
		for _, n := range []int{math.MinInt, -1, 0, 1, 127, 128, most - 1, most, most + 1, math.MaxInt} {
			for _, c := range []struct {
				device int
				p      api.Prekey
			}{{n, p}, {1, api.Prekey{ID: n}}, {n, api.Prekey{ID: n, Key: key(255)}}} {
				got, want := lists.Vouch(secret, c.device, c.p), wantSign(secret, wantVouching(c.device, c.p))
				if got != want {
					t.Errorf("Vouch(%x, %d, %v) = %x, want %x", secret, c.device, c.p, got, want)
				}
				if !lists.Vouched(wantPublic(secret), c.device, c.p, want) {
					t.Errorf("Vouched of it by %x, %d, %v: false", secret, c.device, c.p)
				}
			}
		}
	}
}

func TestVouchedByNoOther(t *testing.T) {
	p := api.Prekey{ID: 300, Key: key(8)}
	ident, s := wantPublic(key(1)), lists.Vouch(key(1), 5, p)
	holdFalse := func(what string, ident api.Key, device int, p api.Prekey, s api.Sig) {
		t.Helper()
		if lists.Vouched(ident, device, p, s) {
			t.Errorf("%s: Vouched(%x, %d, %v, %x)", what, ident, device, p, s)
		}
	}
	for bit := range 256 {
		otherIdent, otherP := ident, p
		otherIdent[bit/8] ^= 1 << (bit % 8)
		otherP.Key[bit/8] ^= 1 << (bit % 8)
		holdFalse("a bit of ident", otherIdent, 5, p, s)
		holdFalse("a bit of Key", ident, 5, otherP, s)
	}
	for bit := range 512 {
		other := s
		other[bit/8] ^= 1 << (bit % 8)
		holdFalse("a bit of the signature", ident, 5, p, other)
	}
	for _, n := range []int{math.MinInt, -1, 0, 1, 4, 6, 133, 299, 301, 44, most, math.MaxInt} {
		holdFalse("another device", ident, n, p, s)
		holdFalse("another ID", ident, 5, api.Prekey{ID: n, Key: p.Key}, s)
	}
	holdFalse("numbers changed", ident, 300, api.Prekey{ID: 5, Key: p.Key}, s)
	holdFalse("noughts", ident, 5, p, api.Sig{})
	body := wantVouching(5, p)
	for what, b := range map[string][]byte{
		"without the text": body[len("keyward prekey"):],
		"another text":     append([]byte("keyward list"), body[len("keyward prekey"):]...),
		"a request's kind": append([]byte("keyward prekey"), wire.Request(api.Request{Kind: api.Upload, Device: 5, Signed: p})...),
		"an account":       append([]byte("keyward prekey"), wire.Request(api.Request{Account: 1, Device: 5, Signed: p})...),
		"the prekey alone": append(append([]byte("keyward prekey"), number(300)...), p.Key[:]...),
		"a byte more":      append(slices.Clone(body), 0),
		"a list":           wantContent(good()),
	} {
		holdFalse("a signature of "+what, ident, 5, p, wantSign(key(1), b))
	}
	holdFalse("a list's signature", good().Ident, 5, p, good().Sig)
	if !lists.Vouched(ident, 5, p, s) {
		t.Error("Vouched of what was vouched for: false")
	}
}

// What is handed in stays as it is, what lies behind it is left alone, and what comes out is new memory.
func TestMemory(t *testing.T) {
	all := entries(2, 5, 300, 77, 78)
	before := slices.Clone(all)
	l := good()
	l.Devices = all[:3]
	one, two := lists.Sign(key(1), l), lists.Sign(key(1), l)
	content, again := lists.Content(l), lists.Content(l)
	lists.Find(l, 300)
	lists.Added(l, api.List{Devices: all[:4]})
	lists.Removed(api.List{Devices: all[:4]}, l)
	if !lists.Right(l) || !slices.Equal(all, before) || !same(l, good()) {
		t.Errorf("what was handed in is another one: %+v, behind it %v", l, all[3:])
	}
	if cap(one.Devices) > 3 && one.Devices[:4][3] == all[3] {
		t.Error("what lies behind the devices is handed out")
	}
	if !bytes.Equal(content, wantContent(good())) {
		t.Errorf("Content = %x", content)
	}
	for i := range all {
		all[i] = api.Entry{ID: -1}
	}
	if !same(one, good()) || !same(two, good()) {
		t.Error("what was signed hangs on what was handed in")
	}
	one.Devices[0] = api.Entry{}
	one.Devices = append(one.Devices, api.Entry{ID: 9})
	content[0] = 'x'
	_ = append(content, "more"...)
	if !same(two, good()) || !bytes.Equal(again, wantContent(good())) || all[0] != (api.Entry{ID: -1}) {
		t.Error("two answers share memory")
	}
	if bytes.Equal(lists.Content(good()), content) {
		t.Error("an answer is kept")
	}
}

func TestNilAndEmptyAreTheSame(t *testing.T) {
	none, empty := api.List{Account: 1, Version: 1}, api.List{Account: 1, Version: 1, Devices: []api.Entry{}}
	if !bytes.Equal(lists.Content(none), lists.Content(empty)) || !same(lists.Sign(key(1), none), lists.Sign(key(1), empty)) {
		t.Error("Content, or Sign, tells nil and empty apart")
	}
	holdRight(t, "nil", lists.Sign(key(1), none), false)
	holdRight(t, "empty", lists.Sign(key(1), empty), false)
	for _, was := range []api.List{none, empty} {
		for _, is := range []api.List{none, empty} {
			if _, ok := lists.Added(was, is); ok {
				t.Error("Added of none")
			}
			if _, ok := lists.Removed(was, is); ok {
				t.Error("Removed of none")
			}
		}
		if e, ok := lists.Added(was, good()); ok || e != (api.Entry{}) {
			t.Error("Added of three")
		}
	}
}

// An answer hangs on its own arguments alone, whatever else is asked ahead of it or at the same time.
func TestNothingIsKept(t *testing.T) {
	shared := good()
	var all sync.WaitGroup
	for worker := range 8 {
		all.Go(func() {
			secret := drawnKey(int64(worker))
			for n := range 10 {
				l := api.List{Account: worker + 1, Version: n + 1, Devices: entries(worker+1, worker+2)}
				got := lists.Sign(secret, l)
				if !reflect.DeepEqual(got, signed(secret, l)) || !lists.Right(got) || !lists.Right(shared) {
					t.Errorf("Sign of %+v = %+v", l, got)
				}
				p := api.Prekey{ID: n, Key: secret}
				if s := lists.Vouch(secret, worker, p); !lists.Vouched(got.Ident, worker, p, s) || lists.Vouched(got.Ident, worker+1, p, s) {
					t.Errorf("Vouch of %d, %v = %x", worker, p, s)
				}
			}
		})
	}
	all.Wait()
}
