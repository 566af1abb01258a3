package store_test

import (
	"bytes"
	"math"
	"math/rand"
	"slices"
	"strconv"
	"strings"
	"sync"
	"testing"

	"keyward/api"
	"keyward/store"
)

const most = 60000 // bytes of a value

func quoted(s string) string { return strconv.Quote(s) }

func number(n int) string { return strconv.Itoa(n) }

func holdGet(t *testing.T, s *store.Store, key, want string, wantVersion int) {
	t.Helper()
	if value, version := s.Get(key); string(value) != want || version != wantVersion {
		t.Errorf("Get(%q) = %.40q, %d, want %.40q, %d", key, value, version, want, wantVersion)
	}
}

func holdCas(t *testing.T, s *store.Store, key string, version int, value string, want int, wantErr api.Errno) {
	t.Helper()
	if got, err := s.Cas(key, version, []byte(value)); got != want || err != wantErr {
		t.Errorf("Cas(%q, %d, %.40q) = %d, %d, want %d, %d", key, version, value, got, err, want, wantErr)
	}
}

func holdPut(t *testing.T, s *store.Store, key, value string, want int, wantErr api.Errno) {
	t.Helper()
	if got, err := s.Put(key, []byte(value)); got != want || err != wantErr {
		t.Errorf("Put(%q, %.40q) = %d, %d, want %d, %d", key, value, got, err, want, wantErr)
	}
}

func holdDelete(t *testing.T, s *store.Store, key string, version int, want api.Errno) {
	t.Helper()
	if got := s.Delete(key, version); got != want {
		t.Errorf("Delete(%q, %d) = %d, want %d", key, version, got, want)
	}
}

func holdLen(t *testing.T, s *store.Store, want int) {
	t.Helper()
	if got := s.Len(); got != want {
		t.Errorf("Len = %d, want %d", got, want)
	}
}

// holdKeys holds the keys that a prefix finds, in order, against those wanted.
func holdKeys(t *testing.T, s *store.Store, prefix string, want ...string) {
	t.Helper()
	var got []string
	for _, r := range s.Scan(prefix) {
		got = append(got, r.Key)
	}
	if !slices.Equal(got, want) {
		t.Errorf("Scan(%q) has %q, want %q", prefix, got, want)
	}
}

// filled has these keys, each with itself as value, written in this order.
func filled(t *testing.T, keys ...string) *store.Store {
	t.Helper()
	s := store.New(len(keys))
	for i, key := range keys {
		holdCas(t, s, key, 0, key, i+1, api.OK)
	}
	return s
}

func TestExample(t *testing.T) {
	s := store.New(5)
	holdCas(t, s, "a", 0, "x", 1, api.OK)
	holdCas(t, s, "a", 0, "y", 0, api.ErrVersion)
	holdCas(t, s, "a", 1, "z", 2, api.OK)
	holdGet(t, s, "a", "z", 2)
	holdLen(t, s, 1)
}

func TestNewHasNothing(t *testing.T) {
	for _, n := range []int{math.MinInt, -1, 0, 1, 50, math.MaxInt} {
		s := store.New(n)
		holdLen(t, s, 0)
		for _, key := range []string{"", "a", "\x00", "\xff", strings.Repeat("k", 70000)} {
			holdGet(t, s, key, "", 0)
			holdKeys(t, s, key)
			holdDelete(t, s, key, 0, api.ErrNone)
		}
	}
}

func TestAsManyAsMostSays(t *testing.T) {
	for _, n := range []int{math.MinInt, -7, -1, 0, 1, 2, 50, 51} {
		s := store.New(n)
		for i := range max(n, 0) {
			holdCas(t, s, number(i), 0, "x", i+1, api.OK)
		}
		holdLen(t, s, max(n, 0))
		holdCas(t, s, "one more", 0, "x", 0, api.ErrFull)
		holdPut(t, s, "one more", "x", 0, api.ErrFull)
		holdLen(t, s, max(n, 0))
		holdGet(t, s, "one more", "", 0)
	}
	s := store.New(math.MaxInt)
	for i := range 300 {
		holdPut(t, s, number(i), "x", i+1, api.OK)
	}
	holdLen(t, s, 300)
}

// Where there is no room, what is there is written all the same; what is taken away makes room.
func TestRoom(t *testing.T) {
	s := filled(t, "a", "b")
	holdCas(t, s, "c", 0, "x", 0, api.ErrFull)
	holdCas(t, s, "a", 1, "x", 3, api.OK)
	holdPut(t, s, "b", "y", 4, api.OK)
	holdDelete(t, s, "a", 3, api.OK)
	holdCas(t, s, "c", 0, "z", 6, api.OK)
	holdCas(t, s, "a", 0, "x", 0, api.ErrFull)
	holdPut(t, s, "a", "x", 0, api.ErrFull)
	holdKeys(t, s, "", "b", "c")
}

// One count goes through all keys; what is taken away is counted, too; errors and questions are not.
func TestVersions(t *testing.T) {
	s := store.New(3)
	holdPut(t, s, "b", "1", 1, api.OK)
	holdCas(t, s, "a", 0, "2", 2, api.OK)
	holdCas(t, s, "b", 1, "3", 3, api.OK)
	holdPut(t, s, "b", "4", 4, api.OK)
	holdGet(t, s, "a", "2", 2)
	holdGet(t, s, "b", "4", 4)
	holdDelete(t, s, "b", 4, api.OK)
	holdPut(t, s, "a", "6", 6, api.OK)
	holdCas(t, s, "b", 0, "7", 7, api.OK)

	holdCas(t, s, "b", 4, "x", 0, api.ErrVersion)
	holdCas(t, s, "a", 6, strings.Repeat("x", most+1), 0, api.ErrLong)
	holdPut(t, s, "c", strings.Repeat("x", most+1), 0, api.ErrLong)
	holdDelete(t, s, "c", 0, api.ErrNone)
	holdDelete(t, s, "b", 6, api.ErrVersion)
	s.Scan("")
	s.Len()
	s.Copy().Put("d", nil)
	holdCas(t, s, "c", 0, "8", 8, api.OK)
	holdCas(t, s, "d", 0, "x", 0, api.ErrFull)
	holdDelete(t, s, "c", 8, api.OK)
	holdDelete(t, s, "b", 7, api.OK)
	holdDelete(t, s, "a", 6, api.OK)
	holdLen(t, s, 0)
	holdPut(t, s, "a", "", 12, api.OK)
}

// The same value written again is written: its version is another one.
func TestTheSameValueAgain(t *testing.T) {
	s := store.New(1)
	for i := range 5 {
		holdCas(t, s, "a", i, "x", i+1, api.OK)
	}
	for i := 5; i < 10; i++ {
		holdPut(t, s, "a", "x", i+1, api.OK)
	}
	holdGet(t, s, "a", "x", 10)
}

func TestCasOfAnotherVersion(t *testing.T) {
	s := filled(t, "a", "b", "c")
	for _, version := range []int{math.MinInt, -2, -1, 0, 1, 3, 4, 2 + 1<<32, math.MaxInt} {
		holdCas(t, s, "b", version, "x", 0, api.ErrVersion)
		holdDelete(t, s, "b", version, api.ErrVersion)
	}
	for _, version := range []int{math.MinInt, -1, 1, 2, 3, 4, math.MaxInt} {
		holdCas(t, s, "bb", version, "x", 0, api.ErrVersion)
	}
	for i, key := range []string{"a", "b", "c"} {
		holdGet(t, s, key, key, i+1)
	}
	// What was taken away has no version any more, not the one that it had.
	holdDelete(t, s, "b", 2, api.OK)
	holdCas(t, s, "b", 2, "x", 0, api.ErrVersion)
	holdCas(t, s, "b", 4, "x", 0, api.ErrVersion)
	holdDelete(t, s, "b", 2, api.ErrNone)
	holdCas(t, s, "b", 0, "x", 5, api.OK)
}

func TestLongValues(t *testing.T) {
	s := store.New(2)
	full, long := strings.Repeat("f", most), strings.Repeat("l", most+1)
	holdCas(t, s, "a", 0, long, 0, api.ErrLong)
	holdPut(t, s, "a", long, 0, api.ErrLong)
	holdCas(t, s, "a", 0, full[1:], 1, api.OK)
	holdCas(t, s, "a", 1, full, 2, api.OK)
	holdPut(t, s, "b", full, 3, api.OK)
	holdCas(t, s, "a", 2, long, 0, api.ErrLong)
	holdPut(t, s, "a", long, 0, api.ErrLong)
	holdCas(t, s, "a", 2, strings.Repeat("l", 1<<20), 0, api.ErrLong)
	holdGet(t, s, "a", full, 2)
	holdGet(t, s, "b", full, 3)
}

// The limit is one of values: a key may be as long as it is.
func TestLongKeys(t *testing.T) {
	s := store.New(2)
	key := strings.Repeat("k", most+1)
	holdCas(t, s, key, 0, "x", 1, api.OK)
	holdPut(t, s, key+"l", strings.Repeat("x", most), 2, api.OK)
	holdGet(t, s, key, "x", 1)
	holdKeys(t, s, key, key, key+"l")
}

func TestFirstErrorFirst(t *testing.T) {
	long := strings.Repeat("l", most+1)
	for _, n := range []int{-1, 0, 1} {
		s := store.New(n)
		s.Put("a", nil)
		holdCas(t, s, "b", 7, long, 0, api.ErrLong)
		holdCas(t, s, "b", 0, long, 0, api.ErrLong)
		holdPut(t, s, "b", long, 0, api.ErrLong)
		holdCas(t, s, "b", 7, "x", 0, api.ErrVersion)
		holdCas(t, s, "b", -1, "x", 0, api.ErrVersion)
		holdCas(t, s, "b", 0, "x", 0, api.ErrFull)
		holdPut(t, s, "b", "x", 0, api.ErrFull)
		holdDelete(t, s, "b", 7, api.ErrNone)
		holdDelete(t, s, "b", 0, api.ErrNone)
		holdDelete(t, s, "b", -1, api.ErrNone)
	}
	s := filled(t, "a")
	holdCas(t, s, "a", 7, long, 0, api.ErrLong)
	holdCas(t, s, "a", 7, "x", 0, api.ErrVersion)
}

// Keys go by their bytes, whatever signs these are of, and in whatever order they came.
func TestScanInOrder(t *testing.T) {
	keys := []string{"", "\x00", "\x00\x00", "\x00a", "0", "10", "9", "A", "a", "a\x00", "a/", "a/0", "a/00", "a/1", "a0", "aa", "b", "z", "\x7f", "\x80", "é", "日", "\xff", "\xff\x00", "\xff\xff"}
	if !slices.IsSorted(keys) {
		t.Fatal("keys are not in order")
	}
	drawn := rand.New(rand.NewSource(1))
	for range 50 {
		mixed := slices.Clone(keys)
		drawn.Shuffle(len(mixed), func(i, j int) { mixed[i], mixed[j] = mixed[j], mixed[i] })
		s := filled(t, mixed...)
		holdKeys(t, s, "", keys...)
		for _, r := range s.Scan("") {
			if string(r.Value) != r.Key || mixed[r.Version-1] != r.Key {
				t.Errorf("Scan tells %q with %q, %d", r.Key, r.Value, r.Version)
			}
			holdGet(t, s, r.Key, r.Key, r.Version)
		}
	}
}

func TestScanByPrefix(t *testing.T) {
	s := filled(t, "u", "a/2", "a/1", "a", "b", "a0", "a/", "A/1", "\xff\xffz", "\xff", "a/11", "", "\xfe", "aa/1", "\xff\xff")
	holdKeys(t, s, "a", "a", "a/", "a/1", "a/11", "a/2", "a0", "aa/1")
	holdKeys(t, s, "a/", "a/", "a/1", "a/11", "a/2")
	holdKeys(t, s, "a/1", "a/1", "a/11")
	holdKeys(t, s, "a/11", "a/11")
	holdKeys(t, s, "a/111")
	holdKeys(t, s, "a/3")
	holdKeys(t, s, "/")
	holdKeys(t, s, "A", "A/1")
	holdKeys(t, s, "aa", "aa/1")
	holdKeys(t, s, "b", "b")
	holdKeys(t, s, "c")
	holdKeys(t, s, "u", "u")
	holdKeys(t, s, "v")
	holdKeys(t, s, "\x00")
	holdKeys(t, s, "\xfe", "\xfe")
	holdKeys(t, s, "\xff", "\xff", "\xff\xff", "\xff\xffz")
	holdKeys(t, s, "\xff\xff", "\xff\xff", "\xff\xffz")
	holdKeys(t, s, "\xff\xff\xff")
	holdDelete(t, s, "a/", 7, api.OK)
	holdDelete(t, s, "a/1", 3, api.OK)
	holdKeys(t, s, "a/", "a/11", "a/2")
}

func TestScanTellsWhatGetTells(t *testing.T) {
	s := store.New(3)
	holdPut(t, s, "a/2", "old", 1, api.OK)
	holdPut(t, s, "a/1", "one", 2, api.OK)
	holdPut(t, s, "b", "other", 3, api.OK)
	holdPut(t, s, "a/2", "two", 4, api.OK)
	want := []api.Record{{Key: "a/1", Version: 2, Value: []byte("one")}, {Key: "a/2", Version: 4, Value: []byte("two")}}
	if got := s.Scan("a/"); !slices.EqualFunc(got, want, same) {
		t.Errorf("Scan = %s, want %s", told(got), told(want))
	}
}

// A record of nothing is one: it has a version, and is not the same as none.
func TestNoBytes(t *testing.T) {
	for _, none := range [][]byte{nil, {}} {
		s := store.New(2)
		if version, err := s.Cas("", 0, none); version != 1 || err != api.OK {
			t.Errorf("Cas of nothing = %d, %d", version, err)
		}
		if version, err := s.Put("a", none); version != 2 || err != api.OK {
			t.Errorf("Put of nothing = %d, %d", version, err)
		}
		holdGet(t, s, "", "", 1)
		holdGet(t, s, "a", "", 2)
		holdKeys(t, s, "", "", "a")
		holdLen(t, s, 2)
		holdCas(t, s, "a", 0, "x", 0, api.ErrVersion)
		holdCas(t, s, "", 1, "x", 3, api.OK)
		holdCas(t, s, "", 3, "", 4, api.OK)
		holdGet(t, s, "", "", 4)
		holdDelete(t, s, "a", 2, api.OK)
		holdLen(t, s, 1)
	}
}

// Keys are told apart by every byte, and begins are not taken for the whole.
func TestKeysThatAreAlike(t *testing.T) {
	s := filled(t, "key", "ke", "keyy", "Key", "key ", "key\x00")
	for i, key := range []string{"key", "ke", "keyy", "Key", "key ", "key\x00"} {
		holdGet(t, s, key, key, i+1)
	}
	for _, key := range []string{"", "k", "kez", "keyyy", "KEY", " key", "key\x01"} {
		holdGet(t, s, key, "", 0)
		holdDelete(t, s, key, 1, api.ErrNone)
	}
	holdLen(t, s, 6)
}

func TestDelete(t *testing.T) {
	keys := []string{"a", "b", "c", "d", "e"}
	for i, gone := range keys {
		s := filled(t, keys...)
		holdDelete(t, s, gone, i+1, api.OK)
		holdGet(t, s, gone, "", 0)
		holdLen(t, s, 4)
		holdKeys(t, s, "", slices.Delete(slices.Clone(keys), i, i+1)...)
		for j, key := range keys {
			if j != i {
				holdGet(t, s, key, key, j+1)
			}
		}
		holdDelete(t, s, gone, i+1, api.ErrNone)
		holdCas(t, s, gone, 0, "again", 7, api.OK)
		holdKeys(t, s, "", keys...)
	}
}

func TestCopyIsTheSame(t *testing.T) {
	b := newBoth(4)
	for i, key := range []string{"b", "a", "c", "a", "d"} {
		b.put(t, key, []byte(strings.Repeat("x", i)))
	}
	b.delete(t, "c", 3)
	c := b.copy()
	c.hold(t, "a", "b", "c", "d")
	// It counts on from there, and has room for as many.
	holdPut(t, c.s, "e", "x", 7, api.OK)
	holdPut(t, c.s, "f", "x", 0, api.ErrFull)
	for _, n := range []int{math.MinInt, -1, 0, 1} {
		empty := store.New(n).Copy()
		holdLen(t, empty, 0)
		holdKeys(t, empty, "")
		if n < 1 {
			holdCas(t, empty, "a", 0, "x", 0, api.ErrFull)
		} else {
			holdCas(t, empty, "a", 0, "x", 1, api.OK)
			holdCas(t, empty, "b", 0, "x", 0, api.ErrFull)
		}
	}
}

// Each way to change one of the two leaves the other one as it was.
func TestCopyKnowsNothing(t *testing.T) {
	changes := map[string]func(*testing.T, both){
		"a new first": func(t *testing.T, b both) { b.cas(t, "", 0, []byte("x")) },
		"a new last":  func(t *testing.T, b both) { b.put(t, "z", []byte("x")) },
		"another":     func(t *testing.T, b both) { b.cas(t, "b", 2, []byte("B")) },
		"shorter":     func(t *testing.T, b both) { b.put(t, "b", nil) },
		"first gone":  func(t *testing.T, b both) { b.delete(t, "a", 1) },
		"last gone":   func(t *testing.T, b both) { b.delete(t, "c", 3) },
	}
	for name, change := range changes {
		for _, ofCopy := range []bool{false, true} {
			one := newBoth(4)
			for _, key := range []string{"a", "b", "c"} {
				one.put(t, key, []byte(key))
			}
			two := one.copy()
			changed, kept := one, two
			if ofCopy {
				changed, kept = two, one
			}
			t.Run(name, func(t *testing.T) {
				change(t, changed)
				kept.hold(t, "", "a", "b", "c", "z")
				kept.put(t, "b", []byte("own"))
				kept.hold(t, "", "a", "b", "c", "z")
				changed.hold(t, "", "a", "b", "c", "z")
			})
		}
	}
}

func TestCopyOfCopy(t *testing.T) {
	var all []both
	b := newBoth(50)
	for i := range 20 {
		b.put(t, number(i), []byte{byte(i)})
		all = append(all, b)
		b = b.copy()
		if i%3 == 2 {
			b.delete(t, number(i-1), b.r.has[number(i-1)].Version)
		}
	}
	for _, b := range all {
		b.hold(t, "0", "1", "7", "10", "19")
	}
}

// What is handed in stays as it is, what lies behind it is left alone, and is not kept.
func TestWhatIsHandedIn(t *testing.T) {
	writes := []func(*store.Store, []byte) (int, api.Errno){
		func(s *store.Store, b []byte) (int, api.Errno) { return s.Cas("a", 0, b) },
		func(s *store.Store, b []byte) (int, api.Errno) { return s.Put("a", b) },
		func(s *store.Store, b []byte) (int, api.Errno) { s.Put("a", []byte("old")); return s.Put("a", b) },
		func(s *store.Store, b []byte) (int, api.Errno) { s.Put("a", []byte("old")); return s.Cas("a", 1, b) },
	}
	for i, write := range writes {
		s, memory := store.New(1), []byte("value and more")
		if _, err := write(s, memory[:5]); err != api.OK || string(memory) != "value and more" {
			t.Errorf("way %d: %d, memory is %q", i, err, memory)
		}
		copy(memory, "xxxxxxxxxxxxxxxx")
		value, _ := s.Get("a")
		if string(value) != "value" || slices.Contains(value[:cap(value)], 'm') {
			t.Errorf("way %d: Get = %q, behind it %q", i, value, value[:cap(value)][len(value):])
		}
	}
}

// What comes out is new memory: whoever changes it changes nothing else.
func TestWhatComesOut(t *testing.T) {
	s := filled(t, "aaaa", "aabb", "b")
	got, _ := s.Get("aaaa")
	again, _ := s.Get("aaaa")
	scan, scanned := s.Scan("aa"), s.Scan("aa")
	other := s.Copy()
	got[0] = 'x'
	_ = append(got[:1], "yyy"...)
	for i := range scan {
		scan[i].Value[0] = 'x'
		_ = append(scan[i].Value, "zzzzzzzz"...)
	}
	// Were the values of one answer pieces of one memory, one that grows would reach into the next.
	if string(scan[0].Value) != "xaaa" || string(scan[1].Value) != "xabb" {
		t.Errorf("values of one Scan share memory: %q, %q", scan[0].Value, scan[1].Value)
	}
	_ = append(scan[:1], api.Record{Key: "none", Version: 9})
	scan[0] = api.Record{}
	if string(again) != "aaaa" || string(scanned[0].Value) != "aaaa" || string(scanned[1].Value) != "aabb" || scanned[1].Key != "aabb" {
		t.Errorf("two answers share memory: %q, %s", again, told(scanned))
	}
	for _, s := range []*store.Store{s, other} {
		holdGet(t, s, "aaaa", "aaaa", 1)
		holdGet(t, s, "aabb", "aabb", 2)
		holdKeys(t, s, "", "aaaa", "aabb", "b")
	}
}

// What was told stays as it was told, whatever is written behind it.
func TestWhatWasToldStays(t *testing.T) {
	s := filled(t, "a", "b", "c")
	value, _ := s.Get("a")
	scan := s.Scan("")
	holdPut(t, s, "a", "x", 4, api.OK)
	holdPut(t, s, "b", "yy", 5, api.OK)
	holdDelete(t, s, "a", 4, api.OK)
	holdPut(t, s, "Z", "z", 7, api.OK)
	want := []api.Record{{Key: "a", Version: 1, Value: []byte("a")}, {Key: "b", Version: 2, Value: []byte("b")}, {Key: "c", Version: 3, Value: []byte("c")}}
	if string(value) != "a" || !slices.EqualFunc(scan, want, same) {
		t.Errorf("Get told %q, Scan %s", value, told(scan))
	}
}

// An error changes nothing at all: not what is there, not the order, not the count, not the room.
func TestErrorsChangeNothing(t *testing.T) {
	long := bytes.Repeat([]byte("l"), most+1)
	for _, room := range []int{3, 4} {
		b := newBoth(room)
		for _, key := range []string{"b", "a", "d"} {
			b.put(t, key, []byte(key))
		}
		for _, key := range []string{"", "a", "b", "c", "d", "e"} {
			b.cas(t, key, 1, long)
			b.cas(t, key, -1, nil)
			b.put(t, key, long)
			b.delete(t, key, 9)
			if room == 3 && b.r.has[key].Version == 0 {
				b.put(t, key, nil)
			}
			b.hold(t, "", "a", "b", "c", "d", "e")
		}
		b.put(t, "a", []byte("count"))
		b.put(t, "c", []byte("room"))
		b.hold(t, "", "a", "b", "c", "d", "e")
	}
}

// move is a call that may change a store.
type move func(*testing.T, both)

// moves are all calls of a few keys and versions.
func moves() []move {
	var all []move
	for _, key := range []string{"a", "ab", "b"} {
		all = append(all, func(t *testing.T, b both) { b.put(t, key, []byte(key)) })
		for version := range 4 {
			all = append(all, func(t *testing.T, b both) { b.cas(t, key, version, []byte(number(version))) })
			all = append(all, func(t *testing.T, b both) { b.delete(t, key, version) })
		}
	}
	return all
}

func TestEveryShortHistory(t *testing.T) {
	all := moves()
	for room := range 3 {
		for i := range all {
			for j := range all {
				for k := range all {
					b := newBoth(room)
					for _, at := range []int{i, j, k} {
						all[at](t, b)
					}
					b.hold(t, "a", "ab", "b")
				}
			}
		}
	}
}

// walk does drawn calls, with versions that are mostly right, and values of every length.
func walk(t *testing.T, drawn *rand.Rand, b both, steps int, keys []string) both {
	t.Helper()
	for range steps {
		key := keys[drawn.Intn(len(keys))]
		version := b.r.has[key].Version
		if drawn.Intn(4) == 0 {
			version += drawn.Intn(5) - 2
		}
		value := make([]byte, drawn.Intn(20))
		if drawn.Intn(20) == 0 {
			value = make([]byte, most-1+drawn.Intn(3))
		}
		drawn.Read(value)
		switch drawn.Intn(8) {
		case 0, 1, 2:
			b.cas(t, key, version, value)
		case 3, 4:
			b.put(t, key, value)
		case 5, 6:
			b.delete(t, key, version)
		case 7:
			b = b.copy()
		}
		b.hold(t, key, keys[drawn.Intn(len(keys))])
	}
	return b
}

func TestLongHistories(t *testing.T) {
	for seed := range int64(40) {
		drawn := rand.New(rand.NewSource(seed))
		keys := []string{""}
		for range 1 + drawn.Intn(30) {
			key := make([]byte, drawn.Intn(4))
			for i := range key {
				key[i] = "\x00a/\xff"[drawn.Intn(4)]
			}
			keys = append(keys, string(key))
		}
		b := newBoth(drawn.Intn(len(keys) + 2))
		walk(t, drawn, b, 300, keys).hold(t, keys...)
	}
}

// No two writes are told the same version, and each is above all that were told ahead.
func TestVersionsRise(t *testing.T) {
	drawn, s := rand.New(rand.NewSource(2)), store.New(5)
	last := 0
	for range 3000 {
		key := number(drawn.Intn(8))
		_, was := s.Get(key)
		if drawn.Intn(3) == 0 {
			s.Delete(key, was)
			continue
		}
		version, err := s.Cas(key, was, nil)
		if err == api.OK && (version <= last || was >= version) {
			t.Fatalf("version %d behind %d", version, last)
		}
		last = max(last, version)
	}
}

// Stores know nothing of one another, at the same time too.
func TestStoresAreTheirOwn(t *testing.T) {
	first := filled(t, "shared", "more")
	var all sync.WaitGroup
	for worker := range 8 {
		s := first.Copy()
		all.Go(func() {
			for n := range 200 {
				version, err := s.Put("shared", []byte(number(worker)))
				value, is := s.Get("shared")
				if err != api.OK || version != n+3 || is != version || string(value) != number(worker) {
					t.Errorf("store %d: %d, %d, %q", worker, version, err, value)
				}
			}
		})
	}
	all.Wait()
	holdGet(t, first, "shared", "shared", 1)
	holdGet(t, first, "more", "more", 2)
}

func TestManyRecords(t *testing.T) {
	const many = 5000
	s := store.New(many)
	drawn := rand.New(rand.NewSource(3))
	for i, n := range drawn.Perm(many) {
		holdCas(t, s, "k"+number(n), 0, number(n), i+1, api.OK)
	}
	holdCas(t, s, "one more", 0, "", 0, api.ErrFull)
	all := s.Scan("k")
	if len(all) != many || !slices.IsSortedFunc(all, func(a, b api.Record) int { return strings.Compare(a.Key, b.Key) }) {
		t.Errorf("Scan of %d records, in order or not", len(all))
	}
	for n := range many {
		if value, _ := s.Get("k" + number(n)); string(value) != number(n) {
			t.Fatalf("Get of %d = %q", n, value)
		}
	}
	if got := len(s.Scan("k49")); got != 111 {
		t.Errorf("Scan of k49: %d", got)
	}
}
