package store_test

import (
	"bytes"
	"maps"
	"slices"
	"strings"
	"testing"

	"keyward/api"
	"keyward/store"
)

// reference is what the chapter's words say of a store, over a map.
type reference struct {
	most  int
	count int
	has   map[string]api.Record
}

func newReference(most int) *reference {
	return &reference{most: max(0, most), has: map[string]api.Record{}}
}

func (r *reference) cas(key string, version int, value []byte) (int, api.Errno) {
	was, there := r.has[key]
	if len(value) > 60000 {
		return 0, api.ErrLong
	}
	if version != was.Version {
		return 0, api.ErrVersion
	}
	if !there && len(r.has) >= r.most {
		return 0, api.ErrFull
	}
	r.count++
	r.has[key] = api.Record{Key: key, Version: r.count, Value: bytes.Clone(value)}
	return r.count, api.OK
}

func (r *reference) put(key string, value []byte) (int, api.Errno) {
	return r.cas(key, r.has[key].Version, value)
}

func (r *reference) delete(key string, version int) api.Errno {
	was, there := r.has[key]
	if !there {
		return api.ErrNone
	}
	if was.Version != version {
		return api.ErrVersion
	}
	r.count++
	delete(r.has, key)
	return api.OK
}

func (r *reference) scan(prefix string) []api.Record {
	var out []api.Record
	for _, key := range slices.Sorted(maps.Keys(r.has)) {
		if len(key) >= len(prefix) && key[:len(prefix)] == prefix {
			out = append(out, r.has[key])
		}
	}
	return out
}

func (r *reference) copy() *reference {
	return &reference{r.most, r.count, maps.Clone(r.has)}
}

// both is a store, and what it should be.
type both struct {
	s *store.Store
	r *reference
}

func newBoth(most int) both { return both{store.New(most), newReference(most)} }

func (b both) copy() both { return both{b.s.Copy(), b.r.copy()} }

func (b both) cas(t *testing.T, key string, version int, value []byte) {
	t.Helper()
	got, err := b.s.Cas(key, version, value)
	if want, wantErr := b.r.cas(key, version, value); got != want || err != wantErr {
		t.Fatalf("Cas(%q, %d, %d bytes) = %d, %d, want %d, %d", key, version, len(value), got, err, want, wantErr)
	}
}

func (b both) put(t *testing.T, key string, value []byte) {
	t.Helper()
	got, err := b.s.Put(key, value)
	if want, wantErr := b.r.put(key, value); got != want || err != wantErr {
		t.Fatalf("Put(%q, %d bytes) = %d, %d, want %d, %d", key, len(value), got, err, want, wantErr)
	}
}

func (b both) delete(t *testing.T, key string, version int) {
	t.Helper()
	if got, want := b.s.Delete(key, version), b.r.delete(key, version); got != want {
		t.Fatalf("Delete(%q, %d) = %d, want %d", key, version, got, want)
	}
}

// hold holds all that the store tells against the reference: of each of the keys, as a key and as a prefix.
func (b both) hold(t *testing.T, keys ...string) {
	t.Helper()
	if got, want := b.s.Len(), len(b.r.has); got != want {
		t.Fatalf("Len = %d, want %d", got, want)
	}
	for _, key := range keys {
		want := b.r.has[key]
		if value, version := b.s.Get(key); version != want.Version || !bytes.Equal(value, want.Value) {
			t.Fatalf("Get(%q) = %d bytes, %d, want %d, %d", key, len(value), version, len(want.Value), want.Version)
		}
		b.holdScan(t, key)
	}
	b.holdScan(t, "")
}

func (b both) holdScan(t *testing.T, prefix string) {
	t.Helper()
	if got, want := b.s.Scan(prefix), b.r.scan(prefix); !slices.EqualFunc(got, want, same) {
		t.Fatalf("Scan(%q) = %s, want %s", prefix, told(got), told(want))
	}
}

func same(a, b api.Record) bool {
	return a.Key == b.Key && a.Version == b.Version && bytes.Equal(a.Value, b.Value)
}

func told(l []api.Record) string {
	var b strings.Builder
	for _, r := range l {
		b.WriteString(strings.Join([]string{"", quoted(r.Key), number(r.Version), number(len(r.Value)) + " bytes"}, " "))
	}
	return "[" + strings.TrimSpace(b.String()) + "]"
}
