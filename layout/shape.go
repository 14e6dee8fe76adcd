// Package layout knows the types: which texts are types, where in memory their fields lie, and how values of them turn into bytes and back.
package layout

import "bespoke/api"

// maxBytes is the greatest number that may stand behind a b.
const maxBytes = 16

// What a part may be.
const (
	markPart   = 0 // {, a comma or }
	numberPart = 1
	bytesPart  = 2
)

// A part is a piece of a type's text. A value's text has the same marks in the same order, so that the parts of a type, one after the other, guide through its values too.
type part struct {
	kind  int
	mark  byte
	place int
	size  int
}

// Shape is a type that has been read. Only Parse makes one, so the parts lie within the size.
type Shape struct {
	size  int
	step  int
	parts []part
}

// Size is how many bytes a value of the type takes.
func (s Shape) Size() int { return s.size }

// Step is what the place of a field of the type is a multiple of.
func (s Shape) Step() int { return s.step }

// Covered answers the places of the bytes in which a field lies, the lowest first: all but the gaps.
func (s Shape) Covered() []int {
	var places []int
	for _, p := range s.parts {
		if p.kind == markPart {
			continue
		}
		for i := p.place; i < p.place+p.size; i++ {
			places = append(places, i)
		}
	}
	return places
}

// Parse reads a type; false, if the text is none.
func Parse(text string) (Shape, bool) {
	if len(text) > api.MaxType {
		return Shape{}, false
	}
	r := reader{in: cursor{text: text}}
	size, step, ok := r.readType(0)
	if !ok || size > api.MaxSize || !r.in.ended() {
		return Shape{}, false
	}
	return Shape{size: size, step: step, parts: r.parts}, true
}

// A reader gathers the parts of a type while it reads the text. Where a struct lies hangs on its step, which is known only behind its last field: until then the places of its parts count from its own beginning.
type reader struct {
	in    cursor
	parts []part
}

// readType answers the size and the step of the type that comes next, which stands in as many structs as depth says.
func (r *reader) readType(depth int) (int, int, bool) {
	if r.in.skip('u') {
		return r.readNumber()
	}
	if r.in.skip('b') {
		return r.readBytes()
	}
	return r.readStruct(depth + 1)
}

func (r *reader) readNumber() (int, int, bool) {
	size, ok := r.in.number(4)
	if !ok || size == 0 || size == 3 {
		return 0, 0, false
	}
	r.parts = append(r.parts, part{kind: numberPart, size: size})
	return size, size, true
}

func (r *reader) readBytes() (int, int, bool) {
	size, ok := r.in.number(maxBytes)
	if !ok || size == 0 {
		return 0, 0, false
	}
	r.parts = append(r.parts, part{kind: bytesPart, size: size})
	return size, 1, true
}

// readStruct refuses what stands too deep before it reads on: this bounds the recursion.
func (r *reader) readStruct(depth int) (int, int, bool) {
	if depth > api.MaxDepth || !r.readMark('{') {
		return 0, 0, false
	}
	end := 0
	step := 1
	for fields := 0; fields < api.MaxFields; fields++ {
		first := len(r.parts)
		fieldSize, fieldStep, ok := r.readType(depth)
		if !ok {
			return 0, 0, false
		}
		place := roundUp(end, fieldStep)
		r.shift(first, place)
		end = place + fieldSize
		if fieldStep > step {
			step = fieldStep
		}
		if r.readMark('}') {
			return roundUp(end, step), step, true
		}
		if !r.readMark(',') {
			return 0, 0, false
		}
	}
	return 0, 0, false
}

func (r *reader) readMark(mark byte) bool {
	if !r.in.skip(mark) {
		return false
	}
	r.parts = append(r.parts, part{kind: markPart, mark: mark})
	return true
}

// shift moves the parts from the first on, once it is known where the field lies that they make up.
func (r *reader) shift(first int, places int) {
	for i := first; i < len(r.parts); i++ {
		r.parts[i].place += places
	}
}

// roundUp answers the least multiple of the step that is not below the place.
func roundUp(place int, step int) int {
	if step < 1 {
		return place
	}
	return (place + step - 1) / step * step
}
