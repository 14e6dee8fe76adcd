// Package machine knows the small machine: which texts are code, what running code does, and which of its instructions can be reached.
package machine

import "bespoke/api"

// instructionSize is how many bytes an instruction has.
const instructionSize = 5

// registerCount is how many registers the machine has.
const registerCount = 16

// maxShift is the greatest number of bits that may be shifted out.
const maxShift = 31

// What an instruction may do. From opGo on k says where to go on.
const (
	opEnd       = 0
	opNumber    = 1
	opCopy      = 2
	opAdd       = 3
	opSubtract  = 4
	opMultiply  = 5
	opBoth      = 6
	opJustOne   = 7
	opShift     = 8
	opLoad      = 9
	opStore     = 10
	opGo        = 11
	opGoSame    = 12
	opGoNotSame = 13
	opGoLess    = 14
)

// An instruction has the registers a and b even where it does not need them: Trim gives them back as they were.
type instruction struct {
	op int
	a  int
	b  int
	k  int
}

// saysWhere tells whether k is an instruction's number.
func (i instruction) saysWhere() bool { return i.op >= opGo }

// nextFollows tells whether the instruction behind this one may follow it.
func (i instruction) nextFollows() bool { return i.op != opEnd && i.op != opGo }

// Code is a program that has been read. Only Parse makes one, and Trim out of it, so its registers are there, every instruction that may follow another is there, and there is a first one.
type Code struct {
	list []instruction
}

// Parse reads code; false, if the text is none.
func Parse(text string) (Code, bool) {
	count := len(text) / instructionSize
	if count < 1 || count > api.MaxCode || len(text) != count*instructionSize {
		return Code{}, false
	}
	var list []instruction
	for n := 0; n < count; n++ {
		i := instructionAt(text, n*instructionSize)
		if !allowed(i, count) {
			return Code{}, false
		}
		list = append(list, i)
	}
	if list[count-1].nextFollows() {
		return Code{}, false
	}
	return Code{list: list}, true
}

// instructionAt reads the five bytes from the place on.
func instructionAt(text string, place int) instruction {
	if place < 0 || place+instructionSize > len(text) {
		return instruction{}
	}
	return instruction{
		op: int(text[place]),
		a:  int(text[place+1]),
		b:  int(text[place+2]),
		k:  int(text[place+3]) + int(text[place+4])*256,
	}
}

// allowed tells whether the instruction may stand in code of so many.
func allowed(i instruction, count int) bool {
	if i.op > opGoLess || i.a >= registerCount || i.b >= registerCount {
		return false
	}
	if i.saysWhere() {
		return i.k < count
	}
	return i.op != opShift || i.k <= maxShift
}

// Text answers the code as a text, which Parse reads as the same code.
func (c Code) Text() string { return textOf(c.list) }

func textOf(list []instruction) string {
	var bytes []byte
	for _, i := range list {
		bytes = append(bytes, byte(i.op&255))
		bytes = append(bytes, byte(i.a&255))
		bytes = append(bytes, byte(i.b&255))
		bytes = append(bytes, byte(i.k&255))
		bytes = append(bytes, byte(i.k>>8&255))
	}
	return string(bytes)
}
