package wire

import "keyward/api"

// writer lays things one behind the other.
type writer struct {
	out []byte
}

func write[T any](thing T, lay func(*writer, T)) []byte {
	var w writer
	lay(&w, thing)
	return w.out
}

func writeAll[T any](w *writer, l []T, lay func(*writer, T)) {
	w.number(len(l))
	for _, thing := range l {
		lay(w, thing)
	}
}

func (w *writer) number(n int) {
	n = min(max(n, 0), api.MaxNumber)
	for ; n >= more; n >>= digitBits {
		w.out = append(w.out, byte(n)|more)
	}
	w.out = append(w.out, byte(n))
}

// numberOrNone is a number from -1 on. It is clipped ahead of the sum, which would go round at the greatest.
func (w *writer) numberOrNone(n int) { w.number(min(n, api.MaxNumber) + 1) }

func (w *writer) truth(is bool) {
	if is {
		w.out = append(w.out, 1)
	} else {
		w.out = append(w.out, 0)
	}
}

func (w *writer) key(k api.Key) { w.out = append(w.out, k[:]...) }

func (w *writer) sig(s api.Sig) { w.out = append(w.out, s[:]...) }

func (w *writer) text(s string) {
	w.number(len(s))
	w.out = append(w.out, s...)
}

func (w *writer) bytes(b []byte) {
	w.number(len(b))
	w.out = append(w.out, b...)
}

func (w *writer) entry(e api.Entry) {
	w.number(e.ID)
	w.key(e.Key)
}

func (w *writer) list(l api.List) {
	w.number(l.Account)
	w.number(l.Version)
	w.key(l.Ident)
	writeAll(w, l.Devices, (*writer).entry)
	w.sig(l.Sig)
}

func (w *writer) prekey(p api.Prekey) {
	w.number(p.ID)
	w.key(p.Key)
}

func (w *writer) bundle(b api.Bundle) {
	w.number(b.Account)
	w.number(b.Device)
	w.key(b.Ident)
	w.key(b.Key)
	w.prekey(b.Signed)
	w.sig(b.Sig)
	writeAll(w, b.One, (*writer).prekey)
}

func (w *writer) header(h api.Header) {
	w.key(h.Ratchet)
	w.number(h.Prev)
	w.number(h.N)
}

func (w *writer) envelope(e api.Envelope) {
	w.number(e.From)
	w.number(e.Device)
	w.truth(e.First)
	w.key(e.Eph)
	w.number(e.Signed)
	w.numberOrNone(e.One)
	w.header(e.Head)
	w.bytes(e.Body)
}

func (w *writer) item(i api.Item) {
	w.number(i.Device)
	w.envelope(i.Env)
}

func (w *writer) request(r api.Request) {
	w.number(int(r.Kind))
	w.number(r.Account)
	w.number(r.Device)
	w.text(r.Pin)
	w.text(r.Next)
	w.text(r.Name)
	w.list(r.List)
	w.key(r.Token)
	w.prekey(r.Signed)
	w.sig(r.Sig)
	writeAll(w, r.Ones, (*writer).prekey)
	w.number(r.Version)
	writeAll(w, r.Items, (*writer).item)
}

func (w *writer) response(r api.Response) {
	w.number(int(r.Err))
	w.list(r.List)
	w.bundle(r.Bundle)
	writeAll(w, r.Mail, (*writer).envelope)
}

func (w *writer) slot(s api.Slot) {
	w.number(s.Device)
	w.prekey(s.Signed)
	w.sig(s.Sig)
	writeAll(w, s.Ones, (*writer).prekey)
	w.number(s.Last)
	writeAll(w, s.Mail, (*writer).envelope)
}

func (w *writer) account(a api.Account) {
	w.number(a.ID)
	w.text(a.Pin)
	w.number(a.Wrong)
	w.number(a.Until)
	w.list(a.List)
	writeAll(w, a.Slots, (*writer).slot)
	writeAll(w, a.Tokens, (*writer).key)
}

func (w *writer) user(u api.User) {
	w.text(u.Name)
	w.number(u.Account)
	w.truth(u.Sure)
}

func (w *writer) users(l []api.User) { writeAll(w, l, (*writer).user) }
