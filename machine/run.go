package machine

import "bespoke/api"

// Start is what a run begins with: the first three registers, and the steps that it may make.
type Start struct {
	A    int
	B    int
	C    int
	Fuel int
}

// Allowed tells whether the registers can hold these words, and whether there is not too much fuel.
func (s Start) Allowed() bool {
	return isWord(s.A) && isWord(s.B) && isWord(s.C) && s.Fuel >= 0 && s.Fuel <= api.MaxFuel
}

func isWord(n int) bool { return n >= 0 && n <= api.MaxWord }

// Run runs the code on a copy of the memory. The start must be allowed.
func (c Code) Run(memory string, start Start) (api.Outcome, api.Errno) {
	r := runner{memory: []byte(memory)}
	r.registers[0] = uint32(start.A)
	r.registers[1] = uint32(start.B)
	r.registers[2] = uint32(start.C)
	for steps := 0; steps < start.Fuel; steps++ {
		i := c.list[r.at]
		if i.op == opEnd {
			return api.Outcome{Memory: string(r.memory), Result: int(r.registers[0]), Status: i.k, Steps: steps + 1}, api.OK
		}
		if !r.step(i) {
			return api.Outcome{}, api.ErrFault
		}
	}
	return api.Outcome{}, api.ErrFuel
}

// A runner is the machine. Its registers have just the bits of a word, so that sums and products are modulo MaxWord + 1 by themselves.
type runner struct {
	registers [registerCount]uint32
	memory    []byte
	at        int
}

// step makes one step; false, if it wants a place that the memory does not have.
func (r *runner) step(i instruction) bool {
	r.at++
	if i.saysWhere() {
		if goesOn(i.op, r.registers[i.a], r.registers[i.b]) {
			r.at = i.k
		}
		return true
	}
	if i.op == opLoad || i.op == opStore {
		return r.reachMemory(i)
	}
	r.registers[i.a] = reckon(i, r.registers[i.a], r.registers[i.b])
	return true
}

// goesOn tells whether an instruction that says where to go on does so.
func goesOn(op int, a uint32, b uint32) bool {
	switch op {
	case opGoSame:
		return a == b
	case opGoNotSame:
		return a != b
	case opGoLess:
		return a < b
	}
	return true
}

// reachMemory loads or stores a byte. The place is no word: it may lie above MaxWord, and is not taken modulo anything.
func (r *runner) reachMemory(i instruction) bool {
	place := int(r.registers[i.b]) + i.k
	if place < 0 || place >= len(r.memory) {
		return false
	}
	if i.op == opLoad {
		r.registers[i.a] = uint32(r.memory[place])
	} else {
		r.memory[place] = byte(r.registers[i.a] & 255)
	}
	return true
}

// reckon answers what register A becomes where neither memory nor going on has a part in it.
func reckon(i instruction, a uint32, b uint32) uint32 {
	switch i.op {
	case opNumber:
		return uint32(i.k)
	case opCopy:
		return b
	case opAdd:
		return a + b
	case opSubtract:
		return a - b
	case opMultiply:
		return a * b
	case opBoth:
		return a & b
	case opJustOne:
		return a ^ b
	case opShift:
		return b >> uint32(i.k)
	}
	return a
}
