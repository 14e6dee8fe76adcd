package bespoke

import (
	"bespoke/api"
	"bespoke/layout"
	"bespoke/machine"
	"bespoke/program"
)

// Table holds keys and values of two types, in the memory of a program that is written for them.
type Table struct {
	key   layout.Shape
	value layout.Shape
	code  machine.Code
	bytes string // the program's table: the beginning of the memory, which it finds again as it left it
}

// New makes a table (P11).
func New(key string, value string, slots int) (*Table, api.Errno) {
	m, e := measure(key, value, slots)
	if e != api.OK {
		return nil, e
	}
	// What a plan writes is code; should it ever be none, there must be no table, since it could not run.
	code, ok := machine.Parse(m.plan.Code())
	if !ok {
		return nil, api.ErrCode
	}
	return &Table{key: m.key, value: m.value, code: code, bytes: blank(m.plan.Room())}, api.OK
}

// Put lays a key down with a value (P11).
func (t *Table) Put(key string, value string) api.Errno {
	keyBytes, ok := t.key.Lay(key, 0)
	if !ok {
		return api.ErrValue
	}
	valueBytes, ok := t.value.Lay(value, 0)
	if !ok {
		return api.ErrValue
	}
	_, e := t.do(api.Lay, keyBytes, valueBytes)
	return e
}

// Get tells a key's value (P11).
func (t *Table) Get(key string) (string, api.Errno) {
	outcome, e := t.doWithKey(api.Find, key)
	if e != api.OK {
		return "", e
	}
	// The value lies last in the memory, so that what is found always has its size.
	place := len(outcome.Memory) - t.value.Size()
	value, ok := t.value.Tell(behind(outcome.Memory, place))
	if !ok {
		return "", api.ErrBytes
	}
	return value, api.OK
}

// Drop takes a key away (P11).
func (t *Table) Drop(key string) api.Errno {
	_, e := t.doWithKey(api.Take, key)
	return e
}

// Len tells how many keys there are (P11).
func (t *Table) Len() int {
	outcome, _ := t.doAlone(api.Count)
	return outcome.Result
}

// Clear takes all keys away (P11).
func (t *Table) Clear() { t.doAlone(api.Empty) }

// doAlone runs a task that needs neither a key nor a value; the program may count on room for them all the same.
func (t *Table) doAlone(task int) (api.Outcome, api.Errno) {
	key := blank(t.key.Size())
	value := blank(t.value.Size())
	return t.do(task, key, value)
}

// doWithKey runs a task that needs a key, and of the value only the room.
func (t *Table) doWithKey(task int, key string) (api.Outcome, api.Errno) {
	keyBytes, ok := t.key.Lay(key, 0)
	if !ok {
		return api.Outcome{}, api.ErrValue
	}
	value := blank(t.value.Size())
	return t.do(task, keyBytes, value)
}

// do runs a task, with the key right behind the table and the value right behind the key. What becomes of the table is kept only if the task is done, since an error changes nothing.
func (t *Table) do(task int, key string, value string) (api.Outcome, api.Errno) {
	room := len(t.bytes)
	start := machine.Start{A: task, B: room, C: room + len(key), Fuel: api.MaxSteps}
	outcome, e := t.code.Run(t.bytes+key+value, start)
	if e != api.OK {
		return api.Outcome{}, e
	}
	e = errnoOf(outcome.Status)
	if e != api.OK {
		return api.Outcome{}, e
	}
	t.bytes = ahead(outcome.Memory, room)
	return outcome, api.OK
}

// errnoOf answers as which error the calls name a program's status.
func errnoOf(status int) api.Errno {
	switch status {
	case program.StatusNone:
		return api.ErrNone
	case program.StatusFull:
		return api.ErrFull
	}
	return api.OK
}

// blank answers so many bytes, all 0.
func blank(count int) string {
	var bytes []byte
	for i := 0; i < count; i++ {
		bytes = append(bytes, 0)
	}
	return string(bytes)
}

// ahead answers what lies ahead of the place, and behind what lies from there on.
func ahead(memory string, place int) string {
	if place < 0 || place > len(memory) {
		return ""
	}
	return memory[:place]
}

func behind(memory string, place int) string {
	if place < 0 || place > len(memory) {
		return ""
	}
	return memory[place:]
}
