package wire_test

import (
	"bytes"
	"encoding/hex"
	"math"
	"math/rand"
	"reflect"
	"slices"
	"strings"
	"sync"
	"testing"

	"keyward/api"
	"keyward/wire"
)

// times is a byte, n times over.
func times(b byte, n int) string { return strings.Repeat(string([]byte{b}), n) }

func key(b byte) api.Key { return api.Key([]byte(times(b, 32))) }

func sig(b byte) api.Sig { return api.Sig([]byte(times(b, 64))) }

// holdBack wants a thing, or an error with nothing beside it.
func holdBack(t *testing.T, of thing, b []byte, want any, wantErr api.Errno) {
	t.Helper()
	if wantErr != api.OK {
		want = reflect.Zero(of.kind).Interface()
	}
	got, err := of.back(b)
	if err != wantErr || !reflect.DeepEqual(got, want) {
		t.Errorf("Read%s of %s = %+v, %d; want %+v, %d", of.name, shown(b), got, err, want, wantErr)
	}
}

func holdShut(t *testing.T, of thing, b []byte, want api.Errno) {
	t.Helper()
	holdBack(t, of, b, nil, want)
}

func shown(b []byte) string {
	if len(b) > 400 {
		return hex.EncodeToString(b[:400]) + ".."
	}
	return hex.EncodeToString(b)
}

// sample has one thing of each type, and its bytes written by hand.
func sample() map[string]struct {
	thing any
	bytes string
} {
	list := api.List{Account: 1, Version: 300, Ident: key(7), Devices: []api.Entry{{ID: 5, Key: key(8)}, {ID: 200, Key: key(9)}}, Sig: sig(10)}
	listBytes := "\x01\xac\x02" + times(7, 32) + "\x02\x05" + times(8, 32) + "\xc8\x01" + times(9, 32) + times(10, 64)
	bundle := api.Bundle{Account: 2, Device: 3, Ident: key(11), Key: key(12), Signed: api.Prekey{ID: 4, Key: key(13)}, Sig: sig(14), One: []api.Prekey{{ID: 65, Key: key(15)}}}
	bundleBytes := "\x02\x03" + times(11, 32) + times(12, 32) + "\x04" + times(13, 32) + times(14, 64) + "\x01\x41" + times(15, 32)
	header := api.Header{Ratchet: key(16), Prev: 128, N: 6}
	headerBytes := times(16, 32) + "\x80\x01\x06"
	envelope := api.Envelope{From: 7, Device: 8, First: true, Eph: key(17), Signed: 9, One: 33, Head: header, Body: []byte("body")}
	envelopeBytes := "\x07\x08\x01" + times(17, 32) + "\x09\x22" + headerBytes + "\x04body"
	bare := api.Envelope{One: -1}
	bareBytes := "\x00\x00\x00" + times(0, 32) + "\x00\x00" + times(0, 34) + "\x00"
	prekeys := []api.Prekey{{ID: 17, Key: key(18)}, {ID: 18, Key: key(19)}}
	prekeysBytes := "\x02\x11" + times(18, 32) + "\x12" + times(19, 32)
	request := api.Request{
		Kind: api.Link, Account: 20, Device: 21, Pin: "pin", Next: "ne", Name: "n", List: list, Token: key(22), Signed: api.Prekey{ID: 23, Key: key(24)},
		Sig: sig(25), Ones: prekeys, Version: 26, Items: []api.Item{{Device: 27, Env: envelope}, {Device: 28, Env: bare}},
	}
	requestBytes := "\x03\x14\x15\x03pin\x02ne\x01n" + listBytes + times(22, 32) + "\x17" + times(24, 32) + times(25, 64) + prekeysBytes + "\x1a\x02\x1b" + envelopeBytes + "\x1c" + bareBytes
	response := api.Response{Err: api.ErrStale, List: list, Bundle: bundle, Mail: []api.Envelope{bare, envelope}}
	responseBytes := "\x2c" + listBytes + bundleBytes + "\x02" + bareBytes + envelopeBytes
	account := api.Account{
		ID: 29, Pin: "pin", Wrong: 2, Until: 1000, List: list,
		Slots: []api.Slot{{Device: 30, Signed: api.Prekey{ID: 31, Key: key(32)}, Sig: sig(33), Ones: prekeys, Last: 34, Mail: []api.Envelope{envelope}}, {Device: 35}}, Tokens: []api.Key{key(36), key(37)},
	}
	accountBytes := "\x1d\x03pin\x02\xe8\x07" + listBytes + "\x02\x1e\x1f" + times(32, 32) + times(33, 64) + prekeysBytes + "\x22\x01" + envelopeBytes +
		"\x23\x00" + times(0, 32) + times(0, 64) + "\x00\x00\x00" + "\x02" + times(36, 32) + times(37, 32)
	users := []api.User{{Name: "a", Account: 300, Sure: true}, {Name: "bc", Account: 1}, {}}
	usersBytes := "\x03\x01a\xac\x02\x01\x02bc\x01\x00\x00\x00\x00"
	return map[string]struct {
		thing any
		bytes string
	}{
		"List": {list, listBytes}, "Bundle": {bundle, bundleBytes}, "Envelope": {envelope, envelopeBytes}, "Request": {request, requestBytes},
		"Response": {response, responseBytes}, "Account": {account, accountBytes}, "Users": {users, usersBytes}, "Header": {header, headerBytes},
	}
}

func TestToTheByte(t *testing.T) {
	for _, of := range things() {
		s := sample()[of.name]
		if got := of.bytes(s.thing); string(got) != s.bytes {
			t.Errorf("%s = %x, want %x", of.name, got, s.bytes)
		}
		if of.back != nil {
			holdBack(t, of, []byte(s.bytes), s.thing, api.OK)
		}
	}
	if got := wire.Users([]api.User{{Name: "a", Account: 300, Sure: true}}); string(got) != "\x01\x01\x61\xac\x02\x01" {
		t.Errorf("Users = %x", got)
	}
}

func TestThingsOfNothing(t *testing.T) {
	envelope := times(0, 36) + "\x01" + times(0, 35)
	for name, want := range map[string]string{
		"List": times(0, 99), "Bundle": times(0, 164), "Envelope": envelope, "Request": times(0, 6) + times(0, 99) + times(0, 32) + times(0, 33) + times(0, 64) + times(0, 3),
		"Response": times(0, 1+99+164+1), "Account": times(0, 4+99+2), "Users": "\x00", "Header": times(0, 34),
	} {
		i := slices.IndexFunc(things(), func(of thing) bool { return of.name == name })
		of := things()[i]
		nothing := reflect.Zero(of.kind).Interface()
		if got := of.bytes(nothing); string(got) != want {
			t.Errorf("%s of nothing = %x, want %x", name, got, want)
		}
		if of.back != nil {
			holdBack(t, of, []byte(want), nothing, api.OK)
		}
	}
}

func TestNumbers(t *testing.T) {
	greatest := "\x80\x80\x80\x80\x80\x20"
	for n, want := range map[int]string{
		math.MinInt: "\x00", -(1 << 40): "\x00", -2: "\x00", -1: "\x00", 0: "\x00", 1: "\x01", 127: "\x7f", 128: "\x80\x01", 300: "\xac\x02",
		1<<14 - 1: "\xff\x7f", 1 << 14: "\x80\x80\x01", 1<<21 - 1: "\xff\xff\x7f", 1 << 21: "\x80\x80\x80\x01",
		1<<28 - 1: "\xff\xff\xff\x7f", 1 << 28: "\x80\x80\x80\x80\x01", 1 << 32: "\x80\x80\x80\x80\x10",
		1<<35 - 1: "\xff\xff\xff\xff\x7f", 1 << 35: "\x80\x80\x80\x80\x80\x01", 1<<40 - 1: "\xff\xff\xff\xff\xff\x1f",
		1 << 40: greatest, 1<<40 + 1: greatest, 1 << 42: greatest, math.MaxInt: greatest,
	} {
		b := wire.Users([]api.User{{Account: n}})
		if string(b) != "\x01\x00"+want+"\x00" {
			t.Errorf("Users of %d = %x, want %x between", n, b, want)
		}
		l, err := wire.ReadUsers(b)
		if err != api.OK || len(l) != 1 || l[0].Account != min(max(n, 0), 1<<40) {
			t.Errorf("back from %d: %+v, %d", n, l, err)
		}
	}
}

func TestOneCountsOneMore(t *testing.T) {
	before, behind := times(0, 36), times(0, 35)
	greatest := "\x80\x80\x80\x80\x80\x20"
	for n, want := range map[int]string{
		math.MinInt: "\x00", -2: "\x00", -1: "\x00", 0: "\x01", 1: "\x02", 126: "\x7f", 127: "\x80\x01",
		1<<40 - 2: "\xff\xff\xff\xff\xff\x1f", 1<<40 - 1: greatest, 1 << 40: greatest, math.MaxInt - 1: greatest, math.MaxInt: greatest,
	} {
		b := wire.Envelope(api.Envelope{One: n})
		if string(b) != before+want+behind {
			t.Errorf("Envelope of One %d = %x, want %x between", n, b, want)
		}
		e, err := wire.ReadEnvelope(b)
		if err != api.OK || e.One != min(max(n, -1), 1<<40-1) {
			t.Errorf("back from One %d: %d, %d", n, e.One, err)
		}
	}
}

// eachNumber goes through all numbers of a thing, as places that may be set.
func eachNumber(v reflect.Value, see func(reflect.Value)) {
	switch v.Kind() {
	case reflect.Struct:
		for i := range v.NumField() {
			eachNumber(v.Field(i), see)
		}
	case reflect.Slice:
		for i := range v.Len() {
			eachNumber(v.Index(i), see)
		}
	case reflect.Int:
		see(v)
	}
}

func TestEachNumberOfEachThing(t *testing.T) {
	for _, of := range things() {
		v := reflect.New(of.kind).Elem()
		v.Set(reflect.ValueOf(sample()[of.name].thing))
		seen := 0
		eachNumber(v, func(n reflect.Value) {
			seen++
			was := n.Int()
			for _, x := range []int64{math.MinInt64, -2, -1, 0, 127, 128, 1<<40 - 1, 1 << 40, 1<<40 + 1, math.MaxInt64} {
				n.SetInt(x)
				if got, want := of.bytes(v.Interface()), laid(v.Interface()).out; !bytes.Equal(got, want) {
					t.Errorf("%s, number %d being %d: %x, want %x", of.name, seen, x, got, want)
				}
			}
			n.SetInt(was)
		})
		if seen == 0 {
			t.Errorf("%s: no numbers", of.name)
		}
	}
}

// TestWhateverItIs has things that there is no way back to: they have bytes all the same.
func TestWhateverItIs(t *testing.T) {
	if b := wire.Response(api.Response{Err: 65535}); string(b[:4]) != "\xff\xff\x03\x00" {
		t.Errorf("Err 65535: %x", b[:4])
	}
	if b := wire.Response(api.Response{Err: 256}); string(b[:3]) != "\x80\x02\x00" {
		t.Errorf("Err 256: %x", b[:3])
	}
	if b := wire.Request(api.Request{Kind: 255}); string(b[:3]) != "\xff\x01\x00" {
		t.Errorf("Kind 255: %x", b[:3])
	}
	for _, n := range []int{127, 128, 59999, 60000, 60001, 200000} {
		text := times('x', n)
		for name, v := range map[string]any{
			"Users":    make([]api.User, n),
			"Request":  api.Request{Pin: text, Next: text, Name: text, Ones: make([]api.Prekey, n)},
			"Envelope": api.Envelope{Body: []byte(text)},
			"Account":  api.Account{Pin: text, Tokens: make([]api.Key, n)},
			"List":     api.List{Devices: make([]api.Entry, n)},
			"Bundle":   api.Bundle{One: make([]api.Prekey, n)},
		} {
			of := thingNamed(name)
			if got, want := of.bytes(v), laid(v).out; !bytes.Equal(got, want) {
				t.Errorf("%s of %d: %d bytes, not the %d that it has", name, n, len(got), len(want))
			}
		}
	}
}

func thingNamed(name string) thing {
	for _, of := range things() {
		if of.name == name {
			return of
		}
	}
	panic(name)
}

func TestThereAndBack(t *testing.T) {
	rnd := rand.New(rand.NewSource(10))
	for _, of := range things() {
		for range 300 {
			v := drawn(of.kind, rnd)
			b := of.bytes(v)
			if want := laid(v).out; !bytes.Equal(b, want) {
				t.Fatalf("%s of %+v = %x, want %x", of.name, v, b, want)
			}
			if of.back != nil {
				holdBack(t, of, b, v, api.OK)
			}
		}
	}
}

func TestNilAndEmptyAreTheSame(t *testing.T) {
	for name, two := range map[string][2]any{
		"Users":    {[]api.User(nil), []api.User{}},
		"List":     {api.List{}, api.List{Devices: []api.Entry{}}},
		"Bundle":   {api.Bundle{}, api.Bundle{One: []api.Prekey{}}},
		"Envelope": {api.Envelope{}, api.Envelope{Body: []byte{}}},
		"Request":  {api.Request{}, api.Request{Ones: []api.Prekey{}, Items: []api.Item{}, List: api.List{Devices: []api.Entry{}}}},
		"Response": {api.Response{}, api.Response{Mail: []api.Envelope{}}},
		"Account":  {api.Account{}, api.Account{Slots: []api.Slot{}, Tokens: []api.Key{}}},
	} {
		of := thingNamed(name)
		if a, b := of.bytes(two[0]), of.bytes(two[1]); !bytes.Equal(a, b) {
			t.Errorf("%s: nil %x, empty %x", name, a, b)
		}
	}
	for _, of := range readable() {
		holdShut(t, of, nil, api.ErrShort)
		holdShut(t, of, []byte{}, api.ErrShort)
	}
}

func TestShort(t *testing.T) {
	for _, of := range readable() {
		b := []byte(sample()[of.name].bytes)
		for n := range b {
			holdShut(t, of, b[:n:n], api.ErrShort)
			// What lies behind the end is not read, though it would do.
			holdShut(t, of, b[:n], api.ErrShort)
		}
	}
}

func TestBytesLeft(t *testing.T) {
	for _, of := range readable() {
		b := []byte(sample()[of.name].bytes)
		for _, more := range []string{"\x00", "\x01", "\x80", "\xff", times(0, 100), string(b)} {
			holdShut(t, of, append(slices.Clone(b), more...), api.ErrForm)
		}
		nothing := of.bytes(reflect.Zero(of.kind).Interface())
		holdShut(t, of, append(nothing, 0), api.ErrForm)
	}
}

// padded is a thing of each type that can be read, with n bytes that may be as many as one likes.
func padded(name string, n int) any {
	text := times('p', n)
	switch name {
	case "Envelope":
		return api.Envelope{Body: []byte(text)}
	case "Request":
		return api.Request{Next: text}
	case "Response":
		return api.Response{Mail: []api.Envelope{{Body: []byte(text)}}}
	case "Account":
		return api.Account{Pin: text}
	}
	return []api.User{{Name: text}}
}

// listOf is a list that has that many bytes: 100, and 33 or 34 of each device.
func listOf(size int) api.List {
	l := api.List{Devices: make([]api.Entry, (size-100)/33)}
	for i := range (size - 100) % 33 {
		l.Devices[i].ID = 128
	}
	return l
}

func ofSize(of thing, size int) any {
	if of.name == "List" {
		return listOf(size)
	}
	// How many bytes there are is told by three bytes, of none by one.
	return padded(of.name, size-len(of.bytes(padded(of.name, 0)))-2)
}

func TestLong(t *testing.T) {
	for _, of := range readable() {
		for _, size := range []int{59999, 60000, 60001, 60002} {
			v := ofSize(of, size)
			b := of.bytes(v)
			if len(b) != size {
				t.Fatalf("%s has %d bytes, not %d", of.name, len(b), size)
			}
			if size <= 60000 {
				holdBack(t, of, b, v, api.OK)
				holdShut(t, of, b[:size-1], api.ErrShort)
			} else {
				holdShut(t, of, b, api.ErrLong)
			}
		}
		// ErrLong is ahead of whatever else is wrong.
		for _, b := range []string{times(0, 60001), times(255, 60001), times(128, 60001), times(255, 200000)} {
			holdShut(t, of, []byte(b), api.ErrLong)
		}
		holdShut(t, of, []byte(times(255, 60000)), api.ErrForm)
		holdShut(t, of, make([]byte, 60000), api.ErrForm)
		// Memory behind the end counts for nothing.
		long := append(of.bytes(sample()[of.name].thing), make([]byte, 60001)...)
		holdBack(t, of, long[:len(sample()[of.name].bytes)], sample()[of.name].thing, api.OK)
	}
}

// spliced is b with other bytes at a place.
func spliced(b []byte, p place, with string) []byte {
	return slices.Concat(b[:p.at], []byte(with), b[p.at+p.size:])
}

// eachPlace goes through what stands where in a thing's bytes.
func eachPlace(t *testing.T, what string, see func(of thing, b []byte, p place)) {
	t.Helper()
	seen := 0
	for _, of := range readable() {
		r := laid(sample()[of.name].thing)
		for _, p := range r.places {
			if p.what == what {
				seen++
				see(of, r.out, p)
			}
		}
	}
	if seen == 0 {
		t.Errorf("no %s", what)
	}
}

func TestWrongNumbers(t *testing.T) {
	for _, what := range []string{aNumber, aSmall, aCount} {
		eachPlace(t, what, func(of thing, b []byte, p place) {
			was := b[p.at : p.at+p.size]
			longer := slices.Clone(was)
			longer[len(longer)-1] |= 0x80
			wrong := []string{
				string(longer) + "\x00", string(longer) + "\x80\x00",
				"\x80\x00", "\x80\x80\x00", "\x80\x80\x80\x00", "\x80\x80\x80\x80\x00", "\x80\x80\x80\x80\x80\x00", "\x81\x00", "\xff\xff\x00",
				"\x81\x80\x80\x80\x80\x20", "\xff\xff\xff\xff\xff\x3f", "\x80\x80\x80\x80\x80\x21", "\x80\x80\x80\x80\x80\x40", "\x80\x80\x80\x80\x80\x7f",
				"\x80\x80\x80\x80\x80\x80", "\xff\xff\xff\xff\xff\xff", "\x80\x80\x80\x80\x80\x80\x00", "\x80\x80\x80\x80\x80\x80\x01", "\x80\x80\x80\x80\x80\xa0",
			}
			for _, with := range wrong {
				holdShut(t, of, spliced(b, p, with), api.ErrForm)
				// That it is wrong shows where the bytes end behind it, too.
				holdShut(t, of, append(slices.Clone(b[:p.at]), with...), api.ErrForm)
			}
			for n := range 5 {
				holdShut(t, of, append(slices.Clone(b[:p.at]), times(128, n)...), api.ErrShort)
				holdShut(t, of, append(slices.Clone(b[:p.at]), times(255, n)...), api.ErrShort)
			}
			holdShut(t, of, append(slices.Clone(b[:p.at]), times(255, 5)...), api.ErrShort)
		})
	}
}

func TestGreatestNumbers(t *testing.T) {
	eachPlace(t, aNumber, func(of thing, b []byte, p place) {
		for _, with := range []string{"\x00", "\x7f", "\x80\x01", "\xff\xff\xff\xff\x7f", "\x80\x80\x80\x80\x80\x01", "\xff\xff\xff\xff\xff\x1f", "\x80\x80\x80\x80\x80\x20"} {
			other := spliced(b, p, with)
			want, wantErr := wantBack(of.kind, other)
			if wantErr != api.OK {
				t.Fatalf("%s: the reference tells %d", of.name, wantErr)
			}
			holdBack(t, of, other, want, api.OK)
		}
	})
}

func TestWrongKindsAndErrors(t *testing.T) {
	eachPlace(t, aSmall, func(of thing, b []byte, p place) {
		for _, with := range []string{"\x80\x02", "\x81\x02", "\xff\x7f", "\x80\x80\x01", "\x83\x80\x04", "\x80\x80\x80\x80\x80\x20"} {
			holdShut(t, of, spliced(b, p, with), api.ErrForm)
			holdShut(t, of, append(slices.Clone(b[:p.at]), with...), api.ErrForm)
		}
		for _, with := range []string{"\x00", "\x0e", "\x7f", "\x80\x01", "\xff\x01"} {
			want, wantErr := wantBack(of.kind, spliced(b, p, with))
			holdBack(t, of, spliced(b, p, with), want, wantErr)
			if wantErr != api.OK {
				t.Errorf("%s: the reference tells %d", of.name, wantErr)
			}
		}
	})
	for _, n := range []int{0, 1, 13, 14, 255} {
		r, err := wire.ReadRequest(wire.Request(api.Request{Kind: uint8(n)}))
		s, err2 := wire.ReadResponse(wire.Response(api.Response{Err: api.Errno(n)}))
		if err != api.OK || err2 != api.OK || int(r.Kind) != n || int(s.Err) != n {
			t.Errorf("%d: Kind %d, %d; Err %d, %d", n, r.Kind, err, s.Err, err2)
		}
	}
	for _, n := range []api.Errno{256, 257, 511, 65535} {
		holdShut(t, thingNamed("Response"), wire.Response(api.Response{Err: n}), api.ErrForm)
	}
}

func TestWrongTruths(t *testing.T) {
	eachPlace(t, aTruth, func(of thing, b []byte, p place) {
		for x := range 256 {
			other := spliced(b, p, string([]byte{byte(x)}))
			if x > 1 {
				holdShut(t, of, other, api.ErrForm)
				continue
			}
			want, wantErr := wantBack(of.kind, other)
			holdBack(t, of, other, want, wantErr)
			if wantErr != api.OK {
				t.Errorf("%s: the reference tells %d", of.name, wantErr)
			}
		}
	})
}

func TestWrongCounts(t *testing.T) {
	eachPlace(t, aCount, func(of thing, b []byte, p place) {
		for _, with := range []string{"\xe1\xd4\x03", "\xe2\xd4\x03", "\x80\x80\x04", "\xff\xff\x7f", "\x80\x80\x80\x80\x10", "\x80\x80\x80\x80\x80\x20"} {
			holdShut(t, of, spliced(b, p, with), api.ErrForm)
			holdShut(t, of, append(slices.Clone(b[:p.at]), with...), api.ErrForm)
		}
		// As many as there may be, and 59999: the bytes end within them.
		for _, with := range []string{"\xe0\xd4\x03", "\xdf\xd4\x03", "\x01"} {
			holdShut(t, of, append(slices.Clone(b[:p.at]), with...), api.ErrShort)
		}
	})
}

func TestFirstErrorByPlace(t *testing.T) {
	users := thingNamed("Users")
	for b, want := range map[string]api.Errno{
		"\xe0\xd4\x03\x00\x80\x00": api.ErrForm,  // 60000 of them, the first one's number wrong
		"\xe0\xd4\x03\x05ab":       api.ErrShort, // the first one's name ends
		"\xe0\xd4\x03\x00\x01\x02": api.ErrForm,  // the first one's bool is wrong
		"\xe0\xd4\x03\x00\x01\x01": api.ErrShort, // the second one is not there
		"\xe1\xd4\x03\x05ab":       api.ErrForm,  // too many, ahead of a name that ends
		"\x02\x00\x01\x01\x00\x01": api.ErrShort, // the second one's bool is not there
		"\x02\x00\x01\x03\x00\x01": api.ErrForm,  // the first one's is wrong, the second one's is not there
		"\x02\x00\x01\x01\x05\x02": api.ErrShort, // a name that ends, ahead of what would be a wrong bool
		"\x01\x00\x01\x02\x00":     api.ErrForm,
		"\x01\x05\x80\x00\x02":     api.ErrShort, // bytes of a name are no numbers
		"\x01\x03\x80\x00\x02":     api.ErrShort,
		"\x00\x00":                 api.ErrForm,
		"\x80":                     api.ErrShort,
		"\x80\x00":                 api.ErrForm,
	} {
		holdShut(t, users, []byte(b), want)
	}
	// Wherever two fields are wrong: the error is the earlier one's.
	for _, of := range readable() {
		r := laid(sample()[of.name].thing)
		for _, p := range r.places {
			if p.what == aRun {
				continue
			}
			wrong := spliced(r.out, p, "\xff\xff\xff\xff\xff\xff")
			holdShut(t, of, wrong[:p.at], api.ErrShort)
			for n := p.at + 6; n <= len(wrong); n += 7 {
				holdShut(t, of, wrong[:n], api.ErrForm)
			}
		}
	}
}

// TestBentBytes holds the way back against the reference, of bytes that are nearly right, and of any.
func TestBentBytes(t *testing.T) {
	rnd := rand.New(rand.NewSource(31))
	told := map[api.Errno]int{}
	for _, of := range readable() {
		for i := range 4000 {
			var b []byte
			if i%8 == 0 {
				b = make([]byte, rnd.Intn(300))
				for j := range b {
					b[j] = byte(rnd.Intn(4) * rnd.Intn(100))
				}
			} else {
				b = bent(of.bytes(drawn(of.kind, rnd)), rnd)
			}
			want, wantErr := wantBack(of.kind, b)
			holdBack(t, of, b, want, wantErr)
			told[wantErr]++
			if wantErr == api.OK && !bytes.Equal(of.bytes(want), b) {
				t.Errorf("%s: %x is not what is told of what it says", of.name, b)
			}
		}
	}
	for _, err := range []api.Errno{api.OK, api.ErrShort, api.ErrForm} {
		if told[err] < 1000 {
			t.Errorf("%d was told %d times alone", err, told[err])
		}
	}
}

func bent(b []byte, rnd *rand.Rand) []byte {
	for range rnd.Intn(3) {
		if len(b) == 0 {
			return b
		}
		i := rnd.Intn(len(b))
		switch rnd.Intn(5) {
		case 0:
			b[i] ^= 1 << rnd.Intn(8)
		case 1:
			b = b[:i]
		case 2:
			b = slices.Insert(b, i, byte(rnd.Intn(256)))
		case 3:
			b = slices.Delete(b, i, i+1)
		default:
			b[i] = byte(rnd.Intn(3))
		}
	}
	return b
}

// memory is from where to where a slice's memory goes, with what lies behind its length.
type memory struct{ from, to uintptr }

func memories(v reflect.Value, out []memory) []memory {
	switch v.Kind() {
	case reflect.Struct:
		for i := range v.NumField() {
			out = memories(v.Field(i), out)
		}
	case reflect.Slice:
		if v.Cap() > 0 {
			out = append(out, memory{v.Pointer(), v.Pointer() + uintptr(v.Cap())*v.Type().Elem().Size()})
		}
		for i := range v.Len() {
			out = memories(v.Index(i), out)
		}
	}
	return out
}

func TestNoMemoryIsShared(t *testing.T) {
	for _, of := range readable() {
		b := []byte(sample()[of.name].bytes)
		one, _ := of.back(b)
		two, _ := of.back(b)
		all := memories(reflect.ValueOf(b), nil)
		all = memories(reflect.ValueOf(one), all)
		all = memories(reflect.ValueOf(two), all)
		all = memories(reflect.ValueOf(of.bytes(one)), all)
		all = memories(reflect.ValueOf(of.bytes(one)), all)
		for i, x := range all {
			for _, y := range all[:i] {
				if x.from < y.to && y.from < x.to {
					t.Errorf("%s: %x shares memory with %x", of.name, x, y)
				}
			}
		}
		if string(b) != sample()[of.name].bytes || !reflect.DeepEqual(one, sample()[of.name].thing) {
			t.Errorf("%s: what was handed in is another one", of.name)
		}
		for i := range b {
			b[i] = 255
		}
		if !reflect.DeepEqual(one, sample()[of.name].thing) {
			t.Errorf("%s: what was told hangs on the bytes that it was read from", of.name)
		}
	}
}

func TestWhatLiesBehindIsLeftAlone(t *testing.T) {
	users := []api.User{{Name: "a"}, {Name: "behind"}}
	if got := wire.Users(users[:1]); string(got) != "\x01\x01a\x00\x00" || users[1].Name != "behind" {
		t.Errorf("Users = %x, behind them %+v", got, users[1])
	}
	body := []byte("bodybehind")
	got := wire.Envelope(api.Envelope{Body: body[:4]})
	if !bytes.HasSuffix(got, []byte("\x04body")) || string(body) != "bodybehind" {
		t.Errorf("Envelope = %x, Body %s", got, body)
	}
	b := []byte("\x01\x01a\x00\x00behind")
	l, err := wire.ReadUsers(b[:5])
	if err != api.OK || len(l) != 1 || string(b) != "\x01\x01a\x00\x00behind" {
		t.Errorf("ReadUsers = %+v, %d; behind the bytes %s", l, err, b[5:])
	}
}

func TestManyAtOnce(t *testing.T) {
	var all sync.WaitGroup
	for i := range 8 {
		all.Go(func() {
			rnd := rand.New(rand.NewSource(int64(i)))
			for _, of := range readable() {
				for range 50 {
					v := drawn(of.kind, rnd)
					holdBack(t, of, of.bytes(v), v, api.OK)
					holdShut(t, of, append(of.bytes(v), 0), api.ErrForm)
				}
			}
		})
	}
	all.Wait()
}
