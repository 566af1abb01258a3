package wire_test

import (
	"encoding/binary"
	"math/rand"
	"reflect"

	"keyward/api"
	"keyward/wire"
)

// thing is a type of api that has bytes; back is nil where there is no way back.
type thing struct {
	name  string
	kind  reflect.Type
	bytes func(v any) []byte
	back  func(b []byte) (any, api.Errno)
}

func thingOf[T any](name string, bytes func(T) []byte, back func([]byte) (T, api.Errno)) thing {
	t := thing{name: name, kind: reflect.TypeFor[T](), bytes: func(v any) []byte { return bytes(v.(T)) }}
	if back != nil {
		t.back = func(b []byte) (any, api.Errno) { return back(b) }
	}
	return t
}

func things() []thing {
	return []thing{
		thingOf("List", wire.List, wire.ReadList),
		thingOf("Bundle", wire.Bundle, nil),
		thingOf("Envelope", wire.Envelope, wire.ReadEnvelope),
		thingOf("Request", wire.Request, wire.ReadRequest),
		thingOf("Response", wire.Response, wire.ReadResponse),
		thingOf("Account", wire.Account, wire.ReadAccount),
		thingOf("Users", wire.Users, wire.ReadUsers),
		thingOf("Header", wire.Header, nil),
	}
}

func readable() []thing {
	var out []thing
	for _, t := range things() {
		if t.back != nil {
			out = append(out, t)
		}
	}
	return out
}

// What stands at a place of a thing's bytes.
const (
	aNumber = "number"
	aSmall  = "small"
	aCount  = "count"
	aTruth  = "truth"
	aRun    = "run" // of bytes that are as they are
)

type place struct {
	at, size int
	what     string
}

// reference lays a thing by api's types alone, as the chapter's words say, and keeps what stands where.
type reference struct {
	out    []byte
	places []place
}

func laid(v any) reference {
	var r reference
	r.lay(reflect.ValueOf(v))
	return r
}

func (r *reference) put(what string, b []byte) {
	r.places = append(r.places, place{len(r.out), len(b), what})
	r.out = append(r.out, b...)
}

func (r *reference) putNumber(what string, n int) {
	switch {
	case n < 0:
		n = 0
	case n > 1<<40:
		n = 1 << 40
	}
	r.put(what, binary.AppendUvarint(nil, uint64(n)))
}

func (r *reference) lay(v reflect.Value) {
	switch v.Kind() {
	case reflect.Struct:
		for i := range v.NumField() {
			if !isOne(v.Type(), i) {
				r.lay(v.Field(i))
			} else if n := int(v.Field(i).Int()); n == int(^uint(0)>>1) {
				r.putNumber(aNumber, n)
			} else {
				r.putNumber(aNumber, n+1)
			}
		}
	case reflect.Array:
		b := make([]byte, v.Len())
		reflect.Copy(reflect.ValueOf(b), v)
		r.put(aRun, b)
	case reflect.String:
		r.putNumber(aCount, v.Len())
		r.put(aRun, []byte(v.String()))
	case reflect.Slice:
		r.putNumber(aCount, v.Len())
		if v.Type().Elem().Kind() == reflect.Uint8 {
			r.put(aRun, v.Bytes())
			return
		}
		for i := range v.Len() {
			r.lay(v.Index(i))
		}
	case reflect.Bool:
		b := byte(0)
		if v.Bool() {
			b = 1
		}
		r.put(aTruth, []byte{b})
	case reflect.Int:
		r.putNumber(aNumber, int(v.Int()))
	case reflect.Uint8, reflect.Uint16:
		r.putNumber(aSmall, int(v.Uint()))
	default:
		panic(v.Kind())
	}
}

// isOne: an envelope's One counts one more; a bundle's One is a list.
func isOne(t reflect.Type, field int) bool {
	return t == reflect.TypeFor[api.Envelope]() && t.Field(field).Name == "One"
}

// wantBack is what the chapter's words make of bytes.
func wantBack(kind reflect.Type, b []byte) (any, api.Errno) {
	if len(b) > 60000 {
		return reflect.Zero(kind).Interface(), api.ErrLong
	}
	v := reflect.New(kind).Elem()
	rest, err := pick(b, v)
	if err == api.OK && len(rest) > 0 {
		err = api.ErrForm
	}
	if err != api.OK {
		v = reflect.Zero(kind)
	}
	return v.Interface(), err
}

func pickNumber(b []byte, most uint64) (int, []byte, api.Errno) {
	for i, x := range b {
		if x >= 128 && i == 5 {
			return 0, nil, api.ErrForm
		}
		if x >= 128 {
			continue
		}
		n, size := binary.Uvarint(b)
		if len(binary.AppendUvarint(nil, n)) != size || n > most {
			return 0, nil, api.ErrForm
		}
		return int(n), b[size:], api.OK
	}
	return 0, nil, api.ErrShort
}

func pickRun(b []byte, n int) ([]byte, []byte, api.Errno) {
	if len(b) < n {
		return nil, nil, api.ErrShort
	}
	return b[:n], b[n:], api.OK
}

func pick(b []byte, v reflect.Value) ([]byte, api.Errno) {
	switch v.Kind() {
	case reflect.Struct:
		return pickFields(b, v)
	case reflect.Array:
		run, rest, err := pickRun(b, v.Len())
		reflect.Copy(v, reflect.ValueOf(run))
		return rest, err
	case reflect.String, reflect.Slice:
		n, rest, err := pickNumber(b, 60000)
		if err != api.OK {
			return nil, err
		}
		return pickParts(rest, v, n)
	case reflect.Bool:
		if len(b) == 0 {
			return nil, api.ErrShort
		}
		if b[0] > 1 {
			return nil, api.ErrForm
		}
		v.SetBool(b[0] == 1)
		return b[1:], api.OK
	case reflect.Int:
		n, rest, err := pickNumber(b, 1<<40)
		v.SetInt(int64(n))
		return rest, err
	case reflect.Uint8, reflect.Uint16:
		n, rest, err := pickNumber(b, 255)
		v.SetUint(uint64(n))
		return rest, err
	}
	panic(v.Kind())
}

func pickFields(b []byte, v reflect.Value) ([]byte, api.Errno) {
	for i := range v.NumField() {
		rest, err := pick(b, v.Field(i))
		if err != api.OK {
			return nil, err
		}
		if isOne(v.Type(), i) {
			v.Field(i).SetInt(v.Field(i).Int() - 1)
		}
		b = rest
	}
	return b, api.OK
}

func pickParts(b []byte, v reflect.Value, n int) ([]byte, api.Errno) {
	if v.Kind() == reflect.String || v.Type().Elem().Kind() == reflect.Uint8 {
		run, rest, err := pickRun(b, n)
		if v.Kind() == reflect.String {
			v.SetString(string(run))
		} else if len(run) > 0 {
			v.SetBytes(append([]byte{}, run...))
		}
		return rest, err
	}
	for range n {
		one := reflect.New(v.Type().Elem()).Elem()
		rest, err := pick(b, one)
		if err != api.OK {
			return nil, err
		}
		v.Set(reflect.Append(v, one))
		b = rest
	}
	return b, api.OK
}

// drawn is a thing of that type that there is a way back to; the same one of the same numbers.
func drawn(kind reflect.Type, rnd *rand.Rand) any {
	v := reflect.New(kind).Elem()
	draw(v, rnd)
	return v.Interface()
}

func draw(v reflect.Value, rnd *rand.Rand) {
	switch v.Kind() {
	case reflect.Struct:
		for i := range v.NumField() {
			draw(v.Field(i), rnd)
			if isOne(v.Type(), i) {
				v.Field(i).SetInt(v.Field(i).Int() - 1)
			}
		}
	case reflect.Array:
		b := make([]byte, v.Len())
		rnd.Read(b)
		reflect.Copy(v, reflect.ValueOf(b))
	case reflect.String:
		b := make([]byte, rnd.Intn(4))
		rnd.Read(b)
		v.SetString(string(b))
	case reflect.Slice:
		if n := rnd.Intn(4); n > 0 {
			v.Set(reflect.MakeSlice(v.Type(), n, n))
		}
		for i := range v.Len() {
			draw(v.Index(i), rnd)
		}
	case reflect.Bool:
		v.SetBool(rnd.Intn(2) == 1)
	case reflect.Int:
		v.SetInt(min(rnd.Int63()>>rnd.Intn(63), 1<<40))
	case reflect.Uint8, reflect.Uint16:
		v.SetUint(uint64(rnd.Intn(256)))
	default:
		panic(v.Kind())
	}
}
