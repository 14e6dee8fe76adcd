package bespoke_test

import (
	"math/rand"
	"strings"
	"testing"

	"bespoke/api"
	"bespoke/bespoke"
)

// A bench is a program with its table, and beside it what the table must hold by the document's words.
type bench struct {
	t          *testing.T
	r          *rand.Rand
	key, value *node
	slots      int
	code       string
	table      string
	held       map[string]string // the bytes of keys and values, with 0 in their gaps
	statuses   [4]int            // how often each has come
}

func newBench(t *testing.T, key *node, value *node, slots int) *bench {
	t.Helper()
	room, e := bespoke.Room(key.text(), value.text(), slots)
	code, f := bespoke.Compile(key.text(), value.text(), slots)
	if e != api.OK || f != api.OK {
		t.Fatalf("P9: Room, Compile(%q, %q, %d): %d, %d", key.text(), value.text(), slots, e, f)
	}
	if most := slots * (key.size() + value.size() + 4); room < 0 || room > most {
		t.Fatalf("P9: Room(%q, %q, %d) = %d, above %d", key.text(), value.text(), slots, room, most)
	}
	wantCode(t, code)
	return &bench{t: t, r: rand.New(rand.NewSource(5)), key: key, value: value, slots: slots, code: code, table: strings.Repeat("\x00", room), held: map[string]string{}}
}

// A spot says where behind the table the key and the value lie.
type spot struct {
	ahead, between, behind int
	valueFirst             bool
}

// A scene is the memory that a task finds.
type scene struct {
	memory          string
	keyAt, valueAt  int
	keySize, values int
}

func (b *bench) scene(key string, value string, s spot) scene {
	first, second := key, value
	if s.valueFirst {
		first, second = value, key
	}
	memory := b.table + b.bytes(s.ahead) + first + b.bytes(s.between) + second + b.bytes(s.behind)
	firstAt := len(b.table) + s.ahead
	secondAt := firstAt + len(first) + s.between
	if s.valueFirst {
		return scene{memory, secondAt, firstAt, len(key), len(value)}
	}
	return scene{memory, firstAt, secondAt, len(key), len(value)}
}

func (b *bench) bytes(count int) string {
	bytes := make([]byte, count)
	b.r.Read(bytes)
	return string(bytes)
}

func (b *bench) anySpot() spot {
	return spot{b.r.Intn(4), b.r.Intn(4), b.r.Intn(4), b.r.Intn(2) == 0}
}

// withGaps lays other bytes into the gaps.
func withGaps(n *node, bytes string, gaps string) string {
	marks := make([]bool, n.size())
	n.markLeaves(marks, 0)
	mixed := []byte(bytes)
	for i, mark := range marks {
		if !mark {
			mixed[i] = gaps[i]
		}
	}
	return string(mixed)
}

// plain is the one of all bytes with the same value that has 0 in its gaps.
func plain(n *node, bytes string) string {
	return withGaps(n, bytes, strings.Repeat("\x00", n.size()))
}

// do runs a task with bytes in the gaps and at places that are new each time.
func (b *bench) do(task int, key string, value string) {
	b.t.Helper()
	b.doAt(task, withGaps(b.key, key, b.bytes(len(key))), withGaps(b.value, value, b.bytes(len(value))), b.anySpot())
}

// doAt runs a task, and holds against the document all that it tells and leaves.
func (b *bench) doAt(task int, key string, value string, s spot) {
	b.t.Helper()
	in := b.scene(key, value, s)
	o, e := bespoke.Run(b.code, in.memory, task, in.keyAt, in.valueAt, api.MaxSteps)
	if e != api.OK {
		b.t.Fatalf("P10: %q, %q, %d slots, task %d, key %q: Run ends with %d", b.key.text(), b.value.text(), b.slots, task, key, e)
	}
	old, status := b.expect(task, plain(b.key, key), plain(b.value, value))
	if o.Status != status {
		b.t.Fatalf("P10: %q, %q, %d slots, task %d, key %q, %d held: status %d, want %d", b.key.text(), b.value.text(), b.slots, task, key, len(b.held), o.Status, status)
	}
	if task == api.Count && o.Result != len(b.held) {
		b.t.Fatalf("P10: %d keys, want %d", o.Result, len(b.held))
	}
	b.checkMemory(task, status, in, o.Memory, old)
	b.table = o.Memory[:len(b.table)]
	b.statuses[status]++
}

// expect does with the map what the task does with the table, and answers the value that the key had and the status.
func (b *bench) expect(task int, key string, value string) (string, int) {
	old, there := b.held[key]
	switch task {
	case api.Find, api.Take:
		if !there {
			return "", 1
		}
		if task == api.Take {
			delete(b.held, key)
		}
	case api.Lay:
		if !there && len(b.held) == b.slots {
			return "", 2
		}
		b.held[key] = value
	case api.Count:
	case api.Empty:
		clear(b.held)
	default:
		return "", 3
	}
	return old, 0
}

func (b *bench) checkMemory(task int, status int, in scene, memory string, old string) {
	b.t.Helper()
	want := in.memory[len(b.table):]
	if task == api.Find && status == 0 {
		found := memory[in.valueAt : in.valueAt+in.values]
		if plain(b.value, found) != old {
			b.t.Fatalf("P10: %q, %q, %d slots: found %q, want %q", b.key.text(), b.value.text(), b.slots, found, old)
		}
		// The value's gaps are free, so that here all its bytes are taken as they are.
		want = in.memory[len(b.table):in.valueAt] + found + in.memory[in.valueAt+in.values:]
	}
	if len(memory) != len(in.memory) || memory[len(b.table):] != want {
		b.t.Fatalf("P10: %q, %q, %d slots, task %d, status %d: the memory beside the table is changed", b.key.text(), b.value.text(), b.slots, task, status)
	}
	if status >= 2 && memory != in.memory {
		b.t.Fatalf("P10: task %d, status %d: the table is changed", task, status)
	}
}

// checkAll finds every key that is given and counts.
func (b *bench) checkAll(keys []string) {
	b.t.Helper()
	for _, key := range keys {
		b.do(api.Find, key, b.bytes(b.value.size()))
	}
	b.do(api.Count, keys[0], b.bytes(b.value.size()))
}

// keys answers so many keys, each other than the ones ahead of it, as far as the type has so many.
func (b *bench) keys(count int) []string {
	var keys []string
	seen := map[string]bool{}
	for tries := 0; tries < 1000 && len(keys) < count; tries++ {
		bytes := make([]byte, b.key.size())
		b.key.lay(b.r, bytes, 0)
		if !seen[string(bytes)] {
			seen[string(bytes)] = true
			keys = append(keys, string(bytes))
		}
	}
	return keys
}
