package bespoke_test

import (
	"math/rand"
	"testing"

	"bespoke/api"
	"bespoke/bespoke"
)

// A ledger is a table, and beside it what the table must hold by the document's words: texts of keys and values.
type ledger struct {
	t          *testing.T
	r          *rand.Rand
	table      *bespoke.Table
	key, value *node
	slots      int
	held       map[string]string
	answers    map[api.Errno]int // how often each has come
}

func newLedger(t *testing.T, key *node, value *node, slots int) *ledger {
	t.Helper()
	table, e := bespoke.New(key.text(), value.text(), slots)
	if table == nil || e != api.OK {
		t.Fatalf("P11: New(%q, %q, %d): table %v, %d", key.text(), value.text(), slots, table != nil, e)
	}
	l := &ledger{t: t, r: rand.New(rand.NewSource(7)), table: table, key: key, value: value, slots: slots, held: map[string]string{}, answers: map[api.Errno]int{}}
	l.count()
	return l
}

func (l *ledger) fail(call string, key string, value string, e api.Errno, wantValue string, want api.Errno) {
	l.t.Helper()
	l.t.Fatalf("P11: %q, %q, %d slots, %d held: %s(%.40q) with the value %.40q, %d, want %.40q, %d", l.key.text(), l.value.text(), l.slots, len(l.held), call, key, value, e, wantValue, want)
}

func (l *ledger) put(key string, value string) {
	l.t.Helper()
	_, there := l.held[key]
	want := api.OK
	if !there && len(l.held) == l.slots {
		want = api.ErrFull
	} else {
		l.held[key] = value
	}
	if e := l.table.Put(key, value); e != want {
		l.fail("Put", key, value, e, value, want)
	}
	l.answers[want]++
}

func (l *ledger) get(key string) {
	l.t.Helper()
	wantValue, there := l.held[key]
	want := api.OK
	if !there {
		want = api.ErrNone
	}
	if v, e := l.table.Get(key); v != wantValue || e != want {
		l.fail("Get", key, v, e, wantValue, want)
	}
	l.answers[want]++
}

func (l *ledger) drop(key string) {
	l.t.Helper()
	_, there := l.held[key]
	want := api.OK
	if !there {
		want = api.ErrNone
	}
	delete(l.held, key)
	if e := l.table.Drop(key); e != want {
		l.fail("Drop", key, "", e, "", want)
	}
	l.answers[want]++
}

func (l *ledger) clear() {
	l.table.Clear()
	clear(l.held)
}

func (l *ledger) count() {
	l.t.Helper()
	if n := l.table.Len(); n != len(l.held) {
		l.t.Fatalf("P11: %q, %q, %d slots: Len() = %d, want %d", l.key.text(), l.value.text(), l.slots, n, len(l.held))
	}
}

// refuse makes calls with a text that is no value of the key's type, or none of the value's: no call may change anything.
func (l *ledger) refuse(key string, value string, keyIsWrong bool) {
	l.t.Helper()
	if e := l.table.Put(key, value); e != api.ErrValue {
		l.fail("Put", key, value, e, value, api.ErrValue)
	}
	l.answers[api.ErrValue]++
	if !keyIsWrong {
		return
	}
	if v, e := l.table.Get(key); v != "" || e != api.ErrValue {
		l.fail("Get", key, v, e, "", api.ErrValue)
	}
	if e := l.table.Drop(key); e != api.ErrValue {
		l.fail("Drop", key, "", e, "", api.ErrValue)
	}
}

// checkAll gets every key that is given and every key that is held, and counts.
func (l *ledger) checkAll(keys []string) {
	l.t.Helper()
	for _, key := range keys {
		l.get(key)
	}
	for key := range l.held {
		l.get(key)
	}
	l.count()
}

func (l *ledger) anyKey() string   { return l.key.lay(l.r, make([]byte, l.key.size()), 0) }
func (l *ledger) anyValue() string { return l.value.lay(l.r, make([]byte, l.value.size()), 0) }

// keys answers so many keys, each other than the ones ahead of it, as far as the type has so many.
func (l *ledger) keys(count int) []string {
	var keys []string
	seen := map[string]bool{}
	for tries := 0; tries < 1000 && len(keys) < count; tries++ {
		key := l.anyKey()
		if !seen[key] {
			seen[key] = true
			keys = append(keys, key)
		}
	}
	return keys
}
