package wire

import (
	"math"

	"keyward/api"
)

// A number's byte has seven bits of it, and one that says that there are more bytes.
const (
	digitBits   = 7
	more        = 1 << digitBits
	numberBytes = 6
)

// reader takes things off the front of bytes. Where it can't, it panics with one of the two types below.
type reader struct {
	left []byte
}

type (
	short     struct{} // the bytes end within a field
	malformed struct{} // no thing has such bytes
)

func read[T any](b []byte, take func(*reader) T) (thing T, err api.Errno) {
	if len(b) > api.MaxWire {
		return thing, api.ErrLong
	}
	defer func() {
		switch recover().(type) {
		case nil:
		case short:
			err = api.ErrShort
		default:
			// Beside malformed there is nothing that panics; if there were, the bytes would not have been read.
			err = api.ErrForm
		}
	}()
	r := reader{b}
	// Not put into the result at once: beside an error that has to stay nothing.
	taken := take(&r)
	if len(r.left) > 0 {
		panic(malformed{})
	}
	return taken, api.OK
}

// readAll goes on thing by thing, though the bytes may be too few for so many: an error within an earlier one comes first.
func readAll[T any](r *reader, take func(*reader) T) []T {
	var l []T
	for range r.count() {
		l = append(l, take(r))
	}
	return l
}

func (r *reader) next(n int) []byte {
	if len(r.left) < n {
		panic(short{})
	}
	taken := r.left[:n]
	r.left = r.left[n:]
	return taken
}

func (r *reader) number() int {
	n := 0
	for i := range numberBytes {
		b := r.next(1)[0]
		n |= int(b&^more) << (digitBits * i)
		if b&more != 0 {
			continue
		}
		if b == 0 && i > 0 || n > api.MaxNumber {
			panic(malformed{})
		}
		return n
	}
	panic(malformed{})
}

func (r *reader) numberUpTo(most int) int {
	n := r.number()
	if n > most {
		panic(malformed{})
	}
	return n
}

// small is a Kind or an Errno.
func (r *reader) small() int { return r.numberUpTo(math.MaxUint8) }

// count is how many bytes, or things, there are.
func (r *reader) count() int { return r.numberUpTo(api.MaxWire) }

func (r *reader) truth() bool {
	b := r.next(1)[0]
	if b > 1 {
		panic(malformed{})
	}
	return b == 1
}

func (r *reader) key() api.Key { return api.Key(r.next(len(api.Key{}))) }

func (r *reader) sig() api.Sig { return api.Sig(r.next(len(api.Sig{}))) }

func (r *reader) text() string { return string(r.next(r.count())) }

func (r *reader) bytes() []byte { return append([]byte(nil), r.next(r.count())...) }

// The things below are taken in the order in which their calls stand.

func (r *reader) entry() api.Entry { return api.Entry{ID: r.number(), Key: r.key()} }

func (r *reader) list() api.List {
	return api.List{
		Account: r.number(),
		Version: r.number(),
		Ident:   r.key(),
		Devices: readAll(r, (*reader).entry),
		Sig:     r.sig(),
	}
}

func (r *reader) prekey() api.Prekey { return api.Prekey{ID: r.number(), Key: r.key()} }

func (r *reader) bundle() api.Bundle {
	return api.Bundle{
		Account: r.number(),
		Device:  r.number(),
		Ident:   r.key(),
		Key:     r.key(),
		Signed:  r.prekey(),
		Sig:     r.sig(),
		One:     readAll(r, (*reader).prekey),
	}
}

func (r *reader) header() api.Header {
	return api.Header{Ratchet: r.key(), Prev: r.number(), N: r.number()}
}

func (r *reader) envelope() api.Envelope {
	return api.Envelope{
		From:   r.number(),
		Device: r.number(),
		First:  r.truth(),
		Eph:    r.key(),
		Signed: r.number(),
		One:    r.number() - 1,
		Head:   r.header(),
		Body:   r.bytes(),
	}
}

func (r *reader) item() api.Item { return api.Item{Device: r.number(), Env: r.envelope()} }

func (r *reader) request() api.Request {
	return api.Request{
		Kind:    uint8(r.small()),
		Account: r.number(),
		Device:  r.number(),
		Pin:     r.text(),
		Next:    r.text(),
		Name:    r.text(),
		List:    r.list(),
		Token:   r.key(),
		Signed:  r.prekey(),
		Sig:     r.sig(),
		Ones:    readAll(r, (*reader).prekey),
		Version: r.number(),
		Items:   readAll(r, (*reader).item),
	}
}

func (r *reader) response() api.Response {
	return api.Response{
		Err:    api.Errno(r.small()),
		List:   r.list(),
		Bundle: r.bundle(),
		Mail:   readAll(r, (*reader).envelope),
	}
}

func (r *reader) slot() api.Slot {
	return api.Slot{
		Device: r.number(),
		Signed: r.prekey(),
		Sig:    r.sig(),
		Ones:   readAll(r, (*reader).prekey),
		Last:   r.number(),
		Mail:   readAll(r, (*reader).envelope),
	}
}

func (r *reader) account() api.Account {
	return api.Account{
		ID:     r.number(),
		Pin:    r.text(),
		Wrong:  r.number(),
		Until:  r.number(),
		List:   r.list(),
		Slots:  readAll(r, (*reader).slot),
		Tokens: readAll(r, (*reader).key),
	}
}

func (r *reader) user() api.User {
	return api.User{Name: r.text(), Account: r.number(), Sure: r.truth()}
}

func (r *reader) users() []api.User { return readAll(r, (*reader).user) }
