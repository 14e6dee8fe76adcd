package bespoke_test

import (
	"fmt"
	"math"
	"math/rand"
	"strconv"
	"strings"
	"testing"

	"bespoke/api"
	"bespoke/bespoke"
)

func number(bytes int) *node      { return &node{number: true, bytes: bytes} }
func some(bytes int) *node        { return &node{bytes: bytes} }
func group(fields ...*node) *node { return &node{fields: fields} }

// greatest is a type of as many bytes as there may be, without a gap; gappy one with as many gaps as there may be.
func greatest() *node { return group(some(16), some(16)) }
func gappy() *node {
	return group(number(1), number(4), number(1), number(4), number(1), number(4), number(1), number(4))
}

// wantNoProgram asks New too, which has the errors of Room.
func wantNoProgram(t *testing.T, key string, value string, slots int, errno api.Errno) {
	t.Helper()
	if n, e := bespoke.Room(key, value, slots); n != 0 || e != errno {
		t.Errorf("P9: Room(%.40q, %.40q, %d) = %d, %d, want %d", key, value, slots, n, e, errno)
	}
	if s, e := bespoke.Compile(key, value, slots); s != "" || e != errno {
		t.Errorf("P9: Compile(%.40q, %.40q, %d) = %.40q, %d, want %d", key, value, slots, s, e, errno)
	}
	if x, e := bespoke.New(key, value, slots); x != nil || e != errno {
		t.Errorf("P11: New(%.40q, %.40q, %d): table %v, %d, want none, %d", key, value, slots, x != nil, e, errno)
	}
}

func wantProgram(t *testing.T, key string, value string, slots int) {
	t.Helper()
	keySize, _, _ := bespoke.Size(key)
	valueSize, _, _ := bespoke.Size(value)
	if n, e := bespoke.Room(key, value, slots); n < 0 || n > slots*(keySize+valueSize+4) || e != api.OK {
		t.Errorf("P9: Room(%q, %q, %d) = %d, %d", key, value, slots, n, e)
	}
	s, e := bespoke.Compile(key, value, slots)
	if e != api.OK {
		t.Errorf("P9: Compile(%q, %q, %d): %d", key, value, slots, e)
	}
	wantCode(t, s)
}

func TestP9Slots(t *testing.T) {
	for slots := -3; slots <= 20; slots++ {
		for _, typ := range []string{"u1", "u4", "b16", "{u1,u4}", "{b16,b16}"} {
			if slots >= 1 && slots <= 16 {
				wantProgram(t, "u1", typ, slots)
				wantProgram(t, typ, "u1", slots)
				wantProgram(t, typ, typ, slots)
			} else {
				wantNoProgram(t, typ, "u1", slots, api.ErrArg)
				wantNoProgram(t, "u1", typ, slots, api.ErrArg)
			}
		}
	}
	for _, slots := range []int{math.MinInt, math.MinInt + 1, math.MinInt + 16, -1 << 32, -1<<32 + 1, -255, 256, 257, 272, 65537, 1 << 32, 1<<32 + 1, 1<<62 + 1, math.MaxInt} {
		wantNoProgram(t, "u1", "u1", slots, api.ErrArg)
	}
}

// No type is named ahead of a wrong number, whichever of the two texts it is.
func TestP9OrderOfErrors(t *testing.T) {
	for _, none := range []string{"", "u", "u3", "u8", "u01", "b", "b0", "b17", "{}", "{u1", "u1}", "{u1,}", "{{{{{u1}}}}}", "{b16,b16,u1}", " u1", "u1 ", "U1", "7", "u1,u1", "{u1,u1,u1,u1,u1,u1,u1,u1,u1}"} {
		for _, slots := range []int{math.MinInt, -1, 0, 1, 16, 17, math.MaxInt} {
			wantNoProgram(t, none, "u1", slots, api.ErrType)
			wantNoProgram(t, "u1", none, slots, api.ErrType)
			wantNoProgram(t, none, none, slots, api.ErrType)
		}
	}
}

func TestP1ProgramsOfLongTexts(t *testing.T) {
	for _, s := range longTexts() {
		for _, slots := range []int{math.MinInt, 0, 1, math.MaxInt} {
			wantNoProgram(t, s, "u1", slots, api.ErrType)
			wantNoProgram(t, "u1", s, slots, api.ErrType)
			wantNoProgram(t, s, s, slots, api.ErrType)
		}
	}
}

func TestP2ProgramsSameAgain(t *testing.T) {
	type answer struct {
		room int
		code string
		e1   api.Errno
		e2   api.Errno
	}
	ask := func(key string, value string, slots int) answer {
		var a answer
		a.room, a.e1 = bespoke.Room(key, value, slots)
		a.code, a.e2 = bespoke.Compile(key, value, slots)
		return a
	}
	types := []string{"u1", "u4", "b3", "{u1,u4}", "{u4,u1}", "{b16,b16}", "no"}
	first := map[string]answer{}
	for round := 0; round < 2; round++ {
		for i := range types {
			for j := range types {
				for slots := 0; slots <= 17; slots++ {
					key, value := types[i], types[j]
					if round == 1 {
						key, value = types[len(types)-1-i], types[len(types)-1-j]
					}
					name := key + " " + value + " " + strconv.Itoa(slots)
					a := ask(key, value, slots)
					if was, there := first[name]; there && was != a {
						t.Errorf("P2: %s: %d, then %d bytes, or other code", name, was.room, a.room)
					}
					first[name] = a
				}
			}
		}
	}
}

// The program's outcome hangs on nothing but its code and its memory.
func TestP2TwoTables(t *testing.T) {
	one := newBench(t, number(2), number(1), 2)
	two := newBench(t, number(2), number(1), 2)
	one.do(api.Lay, "ab", "x")
	two.do(api.Find, "ab", "y")
	two.do(api.Lay, "ab", "z")
	one.do(api.Empty, "ab", "y")
	one.do(api.Find, "ab", "y")
	two.do(api.Find, "ab", "y")
}

func TestP10OneSlot(t *testing.T) {
	b := newBench(t, group(number(1), number(2)), number(1), 1)
	k12, k13, k14 := "\x01\x00\x02\x00", "\x01\x00\x03\x00", "\x01\x00\x04\x00"
	keys := []string{k12, k13, k14}
	b.checkAll(keys)
	b.do(api.Lay, k12, "\x03")
	b.checkAll(keys)
	b.do(api.Lay, k13, "\x03")
	b.checkAll(keys)
	b.do(api.Lay, k12, "\x04")
	b.checkAll(keys)
	b.do(api.Take, k14, "\x04")
	b.checkAll(keys)
	b.do(api.Take, k12, "\x04")
	b.checkAll(keys)
	b.do(api.Take, k12, "\x04")
	b.do(api.Lay, k13, "\x05")
	b.checkAll(keys)
	b.do(api.Empty, k12, "\x05")
	b.checkAll(keys)
	if b.statuses != [4]int{18, 21, 1, 0} {
		t.Errorf("P10: statuses %v", b.statuses)
	}
}

// Every number of slots, filled, overfilled, laid anew, and each key taken away and laid down again.
func TestP10EverySlot(t *testing.T) {
	for slots := 1; slots <= api.MaxSlots; slots++ {
		for _, types := range [][]*node{{number(1), number(1)}, {gappy(), some(3)}, {some(5), gappy()}, {greatest(), greatest()}} {
			b := newBench(t, types[0], types[1], slots)
			keys := b.keys(slots + 1)
			last := keys[slots]
			for _, key := range keys {
				b.do(api.Lay, key, b.bytes(b.value.size()))
				b.checkAll(keys)
			}
			for _, key := range keys[:slots] {
				b.do(api.Lay, key, b.bytes(b.value.size()))
				b.checkAll(keys)
				b.do(api.Take, key, b.bytes(b.value.size()))
				b.checkAll(keys)
				b.do(api.Lay, last, b.bytes(b.value.size()))
				b.do(api.Lay, key, b.bytes(b.value.size()))
				b.checkAll(keys)
				b.do(api.Take, last, b.bytes(b.value.size()))
				b.do(api.Lay, key, b.bytes(b.value.size()))
				b.checkAll(keys)
			}
			b.do(api.Empty, last, b.bytes(b.value.size()))
			b.checkAll(keys)
			b.do(api.Lay, last, b.bytes(b.value.size()))
			b.checkAll(keys)
		}
	}
}

// From each filled table every key is taken away in every order.
func TestP10TakeInEveryOrder(t *testing.T) {
	keys := []string{"a", "b", "c", "d"}
	for order := 0; order < 256; order++ {
		b := newBench(t, number(1), number(1), 4)
		for i, key := range keys {
			b.do(api.Lay, key, string([]byte{byte(100 + i)}))
		}
		for i := 0; i < 8; i += 2 {
			b.do(api.Take, keys[order>>i&3], "x")
			b.checkAll(keys)
		}
	}
}

// The keys that differ in one bit of one byte are two, wherever the byte lies; the same byte in a gap makes no difference.
func TestP10EveryByteOfAKey(t *testing.T) {
	for _, key := range []*node{number(1), number(2), number(4), some(1), some(16), greatest(), gappy(), group(number(1), group(number(2), number(1)), number(4)), group(number(4), number(1)), group(group(group(group(number(1), number(2)))), number(4)), group(some(3), number(2), some(1))} {
		marks := make([]bool, key.size())
		key.markLeaves(marks, 0)
		for i, mark := range marks {
			for bit := 0; bit < 8; bit++ {
				b := newBench(t, key, number(2), 2)
				here := b.bytes(key.size())
				changed := []byte(here)
				changed[i] ^= 1 << bit
				there := string(changed)
				b.doAt(api.Lay, here, "ab", b.anySpot())
				b.doAt(api.Find, there, "--", b.anySpot())
				b.doAt(api.Lay, there, "cd", b.anySpot())
				b.doAt(api.Find, here, "--", b.anySpot())
				b.doAt(api.Count, here, "--", b.anySpot())
				b.doAt(api.Take, there, "--", b.anySpot())
				b.doAt(api.Find, here, "--", b.anySpot())
				if want := map[bool]int{true: 1, false: 0}[mark]; len(b.held) != want {
					t.Fatalf("%q, byte %d: %d keys", key.text(), i, len(b.held))
				}
			}
		}
	}
}

func TestP10EveryByteOfAValue(t *testing.T) {
	for _, value := range []*node{number(1), number(2), number(4), some(1), some(16), greatest(), gappy(), group(number(1), group(number(2), number(1)), number(4)), group(number(4), number(1))} {
		b := newBench(t, number(1), value, 3)
		for i := 0; i < value.size(); i++ {
			for _, n := range []byte{1, 128, 255} {
				bytes := make([]byte, value.size())
				bytes[i] = n
				b.do(api.Lay, "a", string(bytes))
				b.do(api.Find, "a", b.bytes(value.size()))
				b.do(api.Lay, "b", b.bytes(value.size()))
				b.do(api.Find, "a", strings.Repeat("\x00", value.size()))
			}
		}
	}
}

// All gaps of a key with one byte, all with another: the same key, for every task.
func TestP10Gaps(t *testing.T) {
	key, value := gappy(), group(number(1), number(4), number(1))
	bytes := "a---bbbbc---ddddd---ccccb---aaaa"
	fill := func(n *node, bytes string, fill string) string {
		return withGaps(n, bytes, strings.Repeat(fill, n.size()))
	}
	for _, first := range []string{"\x00", "\x01", "a", "\xff"} {
		for _, second := range []string{"\x00", "\x01", "a", "\xff"} {
			b := newBench(t, key, value, 1)
			b.doAt(api.Lay, fill(key, bytes, first), fill(value, "abbbccccddee", second), b.anySpot())
			b.doAt(api.Find, fill(key, bytes, second), fill(value, "------------", first), b.anySpot())
			b.doAt(api.Lay, fill(key, bytes, second), fill(value, "eeddccccbbba", first), b.anySpot())
			b.doAt(api.Count, fill(key, bytes, first), fill(value, "------------", first), b.anySpot())
			b.doAt(api.Find, fill(key, bytes, first), fill(value, "------------", second), b.anySpot())
			b.doAt(api.Take, fill(key, bytes, second), fill(value, "------------", first), b.anySpot())
			if b.statuses != [4]int{6, 0, 0, 0} || len(b.held) != 0 {
				t.Errorf("P10: gaps of %q and %q: statuses %v", first, second, b.statuses)
			}
		}
	}
}

// What is no task changes nothing, in an empty, a half filled and a full table.
func TestP10NoTask(t *testing.T) {
	b := newBench(t, number(2), number(2), 2)
	wrong := []int{0, 6, 7, 8, 9, 10, 255, 256, 257, 258, 259, 260, 261, 512, 65536, 65537, 65538, 1 << 24, 1<<24 + 1, 1 << 31, 1<<31 + 1, 1<<31 + 2, 1<<31 + 3, 1<<31 + 4, 1<<31 + 5, top - 4, top - 1, top}
	for _, key := range []string{"ab", "cd", "ef"} {
		for _, task := range wrong {
			b.do(task, "ab", "xy")
			b.do(task, "gh", "xy")
		}
		b.checkAll([]string{"ab", "cd", "ef", "gh"})
		b.do(api.Lay, key, "xy")
	}
	if b.statuses[3] != 2*3*len(wrong) {
		t.Errorf("P10: statuses %v", b.statuses)
	}
}

// Key and value lie at every distance, in either order, right behind the table, right behind each other, at the end of the memory.
func TestP10Places(t *testing.T) {
	for _, types := range [][]*node{{number(1), number(1)}, {number(4), some(7)}, {gappy(), group(number(1), number(4), number(1))}} {
		b := newBench(t, types[0], types[1], 3)
		keys := b.keys(4)
		far := api.MaxMemory - len(b.table) - b.key.size() - b.value.size()
		for _, s := range []spot{{0, 0, 0, false}, {1, 0, 0, false}, {0, 1, 0, false}, {0, 0, 1, false}, {3, 5, 1, false}, {255, 0, 0, false}, {256, 1, 3, false}, {0, 300, 0, false}, {far, 0, 0, false}, {0, far, 0, false}, {0, 0, far, false}, {far / 2, far - far/2, 0, false}} {
			for _, s.valueFirst = range []bool{false, true} {
				for _, key := range keys {
					b.doAt(api.Lay, key, b.bytes(b.value.size()), s)
				}
				for _, key := range keys {
					b.doAt(api.Find, key, b.bytes(b.value.size()), s)
					b.doAt(9, key, b.bytes(b.value.size()), s)
				}
				for _, key := range keys[1:] {
					b.doAt(api.Take, key, b.bytes(b.value.size()), s)
					b.doAt(api.Count, key, b.bytes(b.value.size()), s)
				}
				b.doAt(api.Empty, keys[0], b.bytes(b.value.size()), s)
			}
		}
	}
}

// The most work: the greatest types, all slots, and keys that differ in their last byte alone.
func TestP10MaxSteps(t *testing.T) {
	b := newBench(t, greatest(), greatest(), api.MaxSlots)
	var keys []string
	for i := 0; i <= api.MaxSlots; i++ {
		keys = append(keys, strings.Repeat("k", api.MaxSize-1)+string([]byte{byte(i)}))
	}
	for round := 0; round < 3; round++ {
		for _, key := range keys {
			b.do(api.Lay, key, b.bytes(api.MaxSize))
		}
		b.checkAll(keys)
		for _, key := range keys {
			b.do(api.Take, key, b.bytes(api.MaxSize))
			b.do(api.Count, key, b.bytes(api.MaxSize))
		}
	}
}

// Every table that can come about with few keys and values, and from there every task.
func TestP10EveryTable(t *testing.T) {
	keys := []string{"\x00", "\x01", "\xff", "\x02"}
	values := []string{"\x00", "\x01"}
	for slots := 1; slots <= 3; slots++ {
		b := newBench(t, number(1), number(1), slots)
		exploreTables(b, keys[:slots+1], values)
		for status, n := range b.statuses {
			if n == 0 {
				t.Errorf("status %d has not come with %d slots", status, slots)
			}
		}
	}
}

// A state is a table, and what it holds.
type state struct {
	table string
	held  map[string]string
}

// exploreTables goes on from each state once, so it ends when no new one comes about.
func exploreTables(b *bench, keys []string, values []string) {
	queue := []state{{b.table, map[string]string{}}}
	seen := map[string]bool{b.table + " " + fmt.Sprint(queue[0].held): true}
	for n := 0; n < len(queue); n++ {
		for task := api.Find; task <= api.Empty+1; task++ {
			for _, key := range keys {
				for _, value := range values {
					b.table = queue[n].table
					b.held = map[string]string{}
					for k, v := range queue[n].held {
						b.held[k] = v
					}
					b.do(task, key, value)
					if name := b.table + " " + fmt.Sprint(b.held); !seen[name] {
						seen[name] = true
						queue = append(queue, state{b.table, b.held})
					}
				}
			}
		}
	}
}

func TestP10AgainstModel(t *testing.T) {
	r := rand.New(rand.NewSource(6))
	var statuses [4]int
	for tables := 0; tables < 600; {
		key, value := randomNode(r, 0), randomNode(r, 0)
		if !key.isType() || !value.isType() {
			continue
		}
		tables++
		b := newBench(t, key, value, 1+r.Intn(api.MaxSlots))
		keys := b.keys(b.slots + 2)
		for i := 0; i < 200; i++ {
			b.do(randomTask(r), keys[r.Intn(len(keys))], b.bytes(value.size()))
		}
		b.checkAll(keys)
		for i, n := range b.statuses {
			statuses[i] += n
		}
	}
	for i, n := range statuses {
		if n < 1000 {
			t.Errorf("too few cases of status %d: %d", i, n)
		}
	}
}

// randomTask lays down most of the time, so that tables get full.
func randomTask(r *rand.Rand) int {
	switch n := r.Intn(100); {
	case n < 45:
		return api.Lay
	case n < 65:
		return api.Find
	case n < 85:
		return api.Take
	case n < 92:
		return api.Count
	case n < 93:
		return api.Empty
	}
	return randomWord(r)
}
