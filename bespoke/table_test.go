package bespoke_test

import (
	"fmt"
	"math"
	"math/rand"
	"strconv"
	"strings"
	"testing"

	"bespoke/api"
	"bespoke/bespoke"
)

// nested has structs as deep in one another as they may be, with numbers, bytes and gaps in them.
func nested() *node {
	return group(number(1), group(some(3), group(number(4), group(number(2), some(1)), number(1))), number(2))
}

func TestP11Example(t *testing.T) {
	x, e := bespoke.New("{u1,u2}", "u1", 1)
	if x == nil || e != api.OK {
		t.Fatalf("P11: New: table %v, %d", x != nil, e)
	}
	if e := x.Put("{1,2}", "3"); e != api.OK {
		t.Errorf("P11: Put({1,2}, 3) = %d", e)
	}
	if e := x.Put("{1,3}", "3"); e != api.ErrFull {
		t.Errorf("P11: Put({1,3}, 3) = %d", e)
	}
	if e := x.Put("{1,2}", "4"); e != api.OK {
		t.Errorf("P11: Put({1,2}, 4) = %d", e)
	}
	if v, e := x.Get("{1,2}"); v != "4" || e != api.OK {
		t.Errorf("P11: Get({1,2}) = %q, %d", v, e)
	}
	if v, e := x.Get("{1,4}"); v != "" || e != api.ErrNone {
		t.Errorf("P11: Get({1,4}) = %q, %d", v, e)
	}
	if e := x.Drop("{1,2}"); e != api.OK {
		t.Errorf("P11: Drop({1,2}) = %d", e)
	}
	if n := x.Len(); n != 0 {
		t.Errorf("P11: Len() = %d", n)
	}
	if e := x.Put("{1}", "3"); e != api.ErrValue {
		t.Errorf("P11: Put({1}, 3) = %d", e)
	}
}

// An empty table refuses every key, and can be cleared all the same.
func TestP11Empty(t *testing.T) {
	for _, key := range []*node{number(1), number(4), some(16), greatest(), gappy(), nested()} {
		for _, slots := range []int{1, 2, api.MaxSlots} {
			l := newLedger(t, key, number(2), slots)
			zero, _ := bespoke.Decode(key.text(), strings.Repeat("\x00", key.size()))
			keys := append(l.keys(5), zero)
			for range 2 {
				l.checkAll(keys)
				for _, k := range keys {
					l.drop(k)
				}
				l.clear()
			}
			l.put(zero, "0")
			l.checkAll(keys)
		}
	}
}

// Every number of slots: filled, overfilled, each key put again, dropped and put again, cleared and filled anew.
func TestP11EverySlot(t *testing.T) {
	for slots := 1; slots <= api.MaxSlots; slots++ {
		for _, types := range [][]*node{{number(1), number(1)}, {gappy(), some(3)}, {some(5), gappy()}, {greatest(), greatest()}, {nested(), nested()}} {
			l := newLedger(t, types[0], types[1], slots)
			keys := l.keys(slots + 1)
			last := keys[slots]
			for range 2 {
				for _, key := range keys {
					l.put(key, l.anyValue())
					l.checkAll(keys)
				}
				for _, key := range keys[:slots] {
					l.put(key, l.anyValue())
					l.checkAll(keys)
					l.drop(key)
					l.checkAll(keys)
					l.put(last, l.anyValue())
					l.put(key, l.anyValue())
					l.checkAll(keys)
					l.drop(last)
					l.drop(last)
					l.put(key, l.anyValue())
					l.checkAll(keys)
				}
				l.clear()
				l.checkAll(keys)
			}
			if l.answers[api.ErrFull] != 2*(1+slots) {
				t.Errorf("P11: %d slots, ErrFull %d times", slots, l.answers[api.ErrFull])
			}
		}
	}
}

// From a filled table the keys are dropped in every order, and put again in the same order.
func TestP11DropInEveryOrder(t *testing.T) {
	keys := []string{"0", "1", "254", "255"}
	for order := 0; order < 256; order++ {
		l := newLedger(t, number(1), number(2), 4)
		for i, key := range keys {
			l.put(key, strconv.Itoa(1000+i))
		}
		for i := 0; i < 8; i += 2 {
			l.drop(keys[order>>i&3])
			l.checkAll(keys)
		}
		for i := 0; i < 8; i += 2 {
			l.put(keys[order>>i&3], strconv.Itoa(order))
			l.checkAll(keys)
		}
	}
}

// All calls that can follow one another in a small table, four of them.
func TestP11EveryCall(t *testing.T) {
	keys := []string{"{0}", "{7}", "{255}"}
	var calls []func(l *ledger)
	for _, key := range keys {
		for _, value := range []string{"00", "ff"} {
			calls = append(calls, func(l *ledger) { l.put(key, value) })
		}
		calls = append(calls, func(l *ledger) { l.drop(key) })
	}
	calls = append(calls, func(l *ledger) { l.clear() })
	for slots := 1; slots <= 2; slots++ {
		for row := range len(calls) * len(calls) * len(calls) * len(calls) {
			l := newLedger(t, group(number(1)), some(1), slots)
			for rest, n := row, 0; n < 4; n++ {
				calls[rest%len(calls)](l)
				rest /= len(calls)
				l.checkAll(keys)
			}
		}
	}
}

// Keys that differ in one bit of one field are two; each value comes back as it was put.
func TestP11EveryByte(t *testing.T) {
	for _, n := range []*node{number(1), number(2), number(4), some(1), some(16), greatest(), gappy(), nested()} {
		marks := make([]bool, n.size())
		n.markLeaves(marks, 0)
		here := strings.Repeat("\x5a", n.size())
		hereText, _ := bespoke.Decode(n.text(), here)
		for i, mark := range marks {
			for bit := 0; bit < 8 && mark; bit++ {
				changed := []byte(here)
				changed[i] ^= 1 << bit
				there, _ := bespoke.Decode(n.text(), string(changed))
				l := newLedger(t, n, n, 2)
				l.put(hereText, there)
				l.get(there)
				l.drop(there)
				l.put(there, hereText)
				l.checkAll(nil)
				l.drop(hereText)
				l.checkAll([]string{hereText, there})
			}
		}
	}
}

// All numbers of one byte, and all single bytes, as keys and as values.
func TestP11EveryNumber(t *testing.T) {
	for _, types := range [][]*node{{number(1), some(1)}, {some(1), number(1)}} {
		l := newLedger(t, types[0], types[1], 3)
		for n := 0; n < 256; n++ {
			byteText := string([]byte{byte(n)})
			key, _ := bespoke.Decode(types[0].text(), byteText)
			value, _ := bespoke.Decode(types[1].text(), byteText)
			l.put(key, value)
			l.get(key)
			if n%5 == 4 {
				l.clear()
			} else if n%5 == 1 {
				l.drop(key)
			}
			l.count()
		}
	}
}

// wrongTexts has texts that are no values, for a type, and one that is.
var wrongTexts = []struct {
	typ   *node
	right string
	wrong []string
}{
	{number(1), "7", []string{"", "256", "07", "00", "-1", "+7", " 7", "7 ", "7,", "{7}", "a", "18446744073709551623", "7\x00"}},
	{number(2), "7", []string{"", "65536", "07", "65543", "{7}"}},
	{number(4), "7", []string{"", "4294967296", "4294967303", "18446744073709551623", "007", "7}"}},
	{some(1), "0a", []string{"", "0", "a", "0A", "00a", "0a0", "0g", "{0a}", "0a "}},
	{some(16), "000102030405060708090a0b0c0d0e0f", []string{"", "7", "000102030405060708090a0b0c0d0e0", "000102030405060708090a0b0c0d0e0f0", "000102030405060708090a0b0c0d0e0f00", "000102030405060708090A0b0c0d0e0f"}},
	{group(number(1)), "{7}", []string{"", "7", "{", "{}", "{7", "7}", "{7,}", "{7,8}", "{{7}}", "{07}", "{256}", "{7}}", "{7} "}},
	{group(number(1), number(2)), "{7,8}", []string{"{7}", "{7,8,9}", "{7,}", "{,8}", "{7,65536}", "{256,8}", "{7, 8}", "7,8", "{78}", "{7,08}"}},
	{group(number(1), group(some(1), number(1))), "{7,{0a,9}}", []string{"{7,0a,9}", "{7,{0a,9}", "{{7,0a},9}", "{7,{9,0a}}", "{7,{0a}}", "{7,{0a,9},}", "{7,{0a,9,1}}", "{{7,{0a,9}}}"}},
}

// A wrong key or value is named ahead of a full table and of a key that is not held, and leaves a table as it is: empty, filled or full.
func TestP11WrongTexts(t *testing.T) {
	for _, k := range wrongTexts {
		for _, v := range wrongTexts {
			l := newLedger(t, k.typ, v.typ, 2)
			keys := l.keys(4)
			for step := 0; step <= 3; step++ {
				for _, wrong := range k.wrong {
					l.refuse(wrong, v.right, true)
					l.refuse(wrong, v.wrong[0], true)
				}
				for _, wrong := range v.wrong {
					l.refuse(k.right, wrong, false)
					l.refuse(keys[0], wrong, false)
					l.refuse(keys[3], wrong, false)
				}
				l.checkAll(append(keys, k.right))
				l.put(keys[step], l.anyValue())
			}
			l.clear()
			l.put(k.right, v.right)
			l.checkAll(keys)
		}
	}
}

// The errors in their order, each with the one behind it applying too.
func TestP11OrderOfErrors(t *testing.T) {
	x, _ := bespoke.New("u1", "b1", 1)
	x.Put("7", "0a")
	for _, c := range []struct {
		key, value     string
		put, get, drop api.Errno
	}{
		{"8", "0a", api.ErrFull, api.ErrNone, api.ErrNone},
		{"8", "0A", api.ErrValue, api.ErrNone, api.ErrNone},
		{"08", "0a", api.ErrValue, api.ErrValue, api.ErrValue},
		{"08", "0A", api.ErrValue, api.ErrValue, api.ErrValue},
		{"0a", "7", api.ErrValue, api.ErrValue, api.ErrValue},
	} {
		if e := x.Put(c.key, c.value); e != c.put {
			t.Errorf("P11: Put(%q, %q) = %d, want %d", c.key, c.value, e, c.put)
		}
		if v, e := x.Get(c.key); v != "" || e != c.get {
			t.Errorf("P11: Get(%q) = %q, %d, want %d", c.key, v, e, c.get)
		}
		if e := x.Drop(c.key); e != c.drop {
			t.Errorf("P11: Drop(%q) = %d, want %d", c.key, e, c.drop)
		}
		if v, e := x.Get("7"); v != "0a" || e != api.OK || x.Len() != 1 {
			t.Errorf("P1: behind Put(%q, %q) the table holds %q, %d, and %d keys", c.key, c.value, v, e, x.Len())
		}
	}
}

func TestP11SlotsOfNew(t *testing.T) {
	for slots := -3; slots <= 20; slots++ {
		for _, typ := range []*node{number(1), some(16), gappy(), greatest()} {
			if slots < 1 || slots > 16 {
				wantNoProgram(t, typ.text(), "u1", slots, api.ErrArg)
				continue
			}
			l := newLedger(t, typ, number(1), slots)
			for _, key := range l.keys(slots + 1) {
				l.put(key, "1")
			}
			if l.count(); len(l.held) != slots {
				t.Errorf("P11: %q: %d keys in %d slots", typ.text(), len(l.held), slots)
			}
		}
	}
}

func TestP11NoTypes(t *testing.T) {
	for _, none := range noTypes {
		for _, slots := range []int{math.MinInt, 0, 1, 16, 17, math.MaxInt} {
			wantNoProgram(t, none, "u1", slots, api.ErrType)
			wantNoProgram(t, "u1", none, slots, api.ErrType)
			wantNoProgram(t, none, none, slots, api.ErrType)
		}
	}
}

func TestP11AgainstModel(t *testing.T) {
	r := rand.New(rand.NewSource(8))
	answers := map[api.Errno]int{}
	for tables := 0; tables < 1000; {
		key, value := randomNode(r, 0), randomNode(r, 0)
		if !key.isType() || !value.isType() {
			continue
		}
		tables++
		l := newLedger(t, key, value, 1+r.Intn(api.MaxSlots))
		keys := l.keys(l.slots + 2)
		for i := 0; i < 150; i++ {
			l.randomCall(r, keys[r.Intn(len(keys))])
		}
		l.checkAll(keys)
		for e, n := range l.answers {
			answers[e] += n
		}
	}
	for _, e := range []api.Errno{api.OK, api.ErrValue, api.ErrFull, api.ErrNone} {
		if answers[e] < 1000 {
			t.Errorf("too few cases of the answer %d: %d", e, answers[e])
		}
	}
}

// randomCall puts most of the time, so that tables get full.
func (l *ledger) randomCall(r *rand.Rand, key string) {
	l.t.Helper()
	switch n := r.Intn(100); {
	case n < 45:
		l.put(key, l.anyValue())
	case n < 65:
		l.get(key)
	case n < 85:
		l.drop(key)
	case n < 90:
		l.count()
	case n < 91:
		l.clear()
	case n < 96:
		l.refuse(key+",", l.anyValue(), true)
	default:
		l.refuse(key, l.anyValue()+"}", false)
	}
}

// Tables of the same types and of others, filled side by side: each knows its own calls alone.
func TestP2TablesSideBySide(t *testing.T) {
	r := rand.New(rand.NewSource(9))
	types := []*node{number(1), number(1), number(2), some(1), group(number(1), number(2)), greatest(), nested()}
	var all []*ledger
	for _, key := range types {
		for _, value := range types {
			all = append(all, newLedger(t, key, value, 1+r.Intn(4)), newLedger(t, key, value, api.MaxSlots))
		}
	}
	keys := make([][]string, len(all))
	for i, l := range all {
		keys[i] = l.keys(l.slots + 1)
	}
	for range 20000 {
		i := r.Intn(len(all))
		all[i].randomCall(r, keys[i][r.Intn(len(keys[i]))])
	}
	for i, l := range all {
		l.checkAll(keys[i])
	}
	all[0].clear()
	for i, l := range all {
		l.checkAll(keys[i])
	}
}

// What a table has been asked before, but for what it holds, and what other calls were made between, changes no answer.
func TestP2TablesSameAgain(t *testing.T) {
	play := func(between func()) string {
		x, _ := bespoke.New("{u1,u4}", "{b2,u2}", 3)
		var answers []string
		for i := 0; i < 400; i++ {
			key := fmt.Sprintf("{%d,%d}", i*7%5, i*3%2)
			switch i * i % 7 {
			case 0, 1:
				answers = append(answers, fmt.Sprint(x.Put(key, fmt.Sprintf("{%04x,%d}", i, i))))
			case 2:
				answers = append(answers, fmt.Sprint(x.Drop(key)))
			default:
				value, e := x.Get(key)
				answers = append(answers, fmt.Sprint(value, e, x.Len()))
			}
			if i%100 == 99 {
				x.Clear()
			}
			between()
		}
		return strings.Join(answers, " ")
	}
	first := play(func() {})
	second := play(func() {
		y, _ := bespoke.New("{u1,u4}", "{b2,u2}", 3)
		y.Put("{1,1}", "{ffff,9}")
		y.Clear()
		bespoke.Compile("{u1,u4}", "{b2,u2}", 3)
		bespoke.Decode("{b2,u2}", "abcd")
	})
	if first != second {
		t.Errorf("P2: %s, then %s", first, second)
	}
	for _, e := range []api.Errno{api.OK, api.ErrFull, api.ErrNone} {
		if !strings.Contains(" "+first+" ", fmt.Sprintf(" %d ", e)) {
			t.Errorf("the answer %d has not come", e)
		}
	}
}

func TestP1TablesOfLongTexts(t *testing.T) {
	for _, types := range [][]*node{{number(1), number(4)}, {some(1), some(16)}, {group(number(1)), gappy()}, {nested(), group(number(1), number(4))}} {
		l := newLedger(t, types[0], types[1], 2)
		keys := l.keys(3)
		l.put(keys[0], l.anyValue())
		for _, s := range longTexts() {
			l.refuse(s, l.anyValue(), true)
			l.refuse(s, s, true)
			l.refuse(keys[0], s, false)
			l.refuse(keys[1], s, false)
		}
		l.checkAll(keys)
		l.put(keys[1], l.anyValue())
		l.refuse(keys[2], longTexts()[0], false)
		l.checkAll(keys)
	}
}

// A change of one byte of a key's text, one byte more or one less makes no key, or one that the table does not hold.
func TestP1SpoiltKeys(t *testing.T) {
	const key = "{0,{10,00ff},99}"
	x, _ := bespoke.New("{u1,{u4,b2},u2}", "u1", 1)
	x.Put(key, "7")
	refuse := func(s string) {
		_, wrong := bespoke.Encode("{u1,{u4,b2},u2}", s, 0)
		want := api.ErrNone
		if wrong == api.ErrValue {
			want = api.ErrValue
		}
		if s == key {
			return
		}
		if v, e := x.Get(s); v != "" || e != want {
			t.Errorf("P11: Get(%q) = %q, %d, want %d", s, v, e, want)
		}
		if e := x.Drop(s); e != want {
			t.Errorf("P11: Drop(%q) = %d, want %d", s, e, want)
		}
		if e := x.Put(s, "8"); want == api.ErrNone && e != api.ErrFull || want == api.ErrValue && e != want {
			t.Errorf("P11: Put(%q, 8) = %d", s, e)
		}
	}
	for i := 0; i <= len(key); i++ {
		refuse(key[:i])
		for b := 0; b < 256; b++ {
			s := string([]byte{byte(b)})
			refuse(key[:i] + s + key[i:])
			if i < len(key) {
				refuse(key[:i] + s + key[i+1:])
			}
		}
	}
	if v, e := x.Get(key); v != "7" || e != api.OK || x.Len() != 1 {
		t.Errorf("P1: the table holds %q, %d, and %d keys", v, e, x.Len())
	}
}
