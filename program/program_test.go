package program

import (
	"testing"

	"bespoke/api"
	"bespoke/layout"
	"bespoke/machine"
)

func plan(t *testing.T, key string, value string, slots int) Plan {
	t.Helper()
	k, _ := layout.Parse(key)
	v, _ := layout.Parse(value)
	p, ok := Make(k, v, slots)
	if !ok {
		t.Fatalf("no plan for %q, %q, %d", key, value, slots)
	}
	return p
}

func TestMakeRefuses(t *testing.T) {
	shape, _ := layout.Parse("u4")
	for _, slots := range []int{-1 << 63, -1, 0, api.MaxSlots + 1, 1<<63 - 1} {
		if p, ok := Make(shape, shape, slots); ok || p.slots != 0 || p.entrySize() != 0 {
			t.Errorf("%d slots: %+v, %v", slots, p, ok)
		}
	}
}

// Gaps take no room.
func TestRoom(t *testing.T) {
	for _, c := range []struct {
		key, value string
		slots      int
		want       int
	}{
		{"u1", "u1", 1, 3}, {"u1", "u1", 16, 33}, {"u4", "b3", 2, 15}, {"{u1,u4}", "{u4,u1}", 1, 11}, {"{u1,u2,u1}", "u1", 3, 16}, {"{b16,b16}", "{b16,b16}", 16, 1025},
	} {
		p := plan(t, c.key, c.value, c.slots)
		if room := p.Room(); room != c.want {
			t.Errorf("room of %q, %q, %d: %d, want %d", c.key, c.value, c.slots, room, c.want)
		}
	}
}

// Each instruction of a program can be reached.
func TestNothingToTrim(t *testing.T) {
	for _, slots := range []int{1, 2, api.MaxSlots} {
		for _, typ := range []string{"u1", "{u1,u4}", "{b16,b16}"} {
			p := plan(t, typ, typ, slots)
			text := p.Code()
			code, ok := machine.Parse(text)
			if !ok {
				t.Fatalf("%q, %d slots: no code", typ, slots)
			}
			if trimmed := code.Trim(); trimmed.Text() != text {
				t.Errorf("%q, %d slots: trimmed it is shorter", typ, slots)
			}
		}
	}
}

// What needs no key wants no place of the memory but the table's, wherever key and value are said to lie.
func TestTasksWithoutKey(t *testing.T) {
	p := plan(t, "u4", "u4", 2)
	code, _ := machine.Parse(p.Code())
	table := "\x02" + "aaaabbbbccccdddd"
	for task, want := range map[int]api.Outcome{api.Count: {Memory: table, Result: 2}, api.Empty: {Memory: "\x00" + table[1:], Result: api.Empty}, 0: {Memory: table, Status: 3}, 77: {Memory: table, Result: 77, Status: 3}} {
		o, e := code.Run(table, machine.Start{A: task, B: api.MaxWord, C: api.MaxWord, Fuel: api.MaxSteps})
		o.Steps = 0
		if o != want || e != api.OK {
			t.Errorf("task %d: %+v, %d, want %+v", task, o, e, want)
		}
	}
}
