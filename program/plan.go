// Package program writes the programs that keep tables in the memory of the machine, each for two types and a number of slots.
package program

import (
	"bespoke/api"
	"bespoke/layout"
)

// countSize is how many bytes the number of keys takes, at the beginning of the table.
const countSize = 1

// A Plan is what a program is written for. The table of a program begins with the number of keys; behind it lie as many ENTRIES, one behind the other, each a key and its value. An entry has only the bytes in which fields lie: so gaps take no room, and cannot make two keys differ.
type Plan struct {
	key   []int // where in a key the bytes lie that an entry has of it
	value []int // the same of a value
	slots int
}

// Make makes a plan; false, if there may not be so many slots.
func Make(key layout.Shape, value layout.Shape, slots int) (Plan, bool) {
	if slots < 1 || slots > api.MaxSlots {
		return Plan{}, false
	}
	return Plan{key: key.Covered(), value: value.Covered(), slots: slots}, true
}

// Room is how many bytes the table has.
func (p Plan) Room() int { return countSize + p.slots*p.entrySize() }

func (p Plan) entrySize() int { return len(p.key) + len(p.value) }
