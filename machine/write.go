package machine

// MaxLabels is how many labels a Writer has: 0 to MaxLabels - 1.
const MaxLabels = 16

// A Writer writes code, one instruction behind the other. An instruction that says where to go on names a label, since it is often written ahead of the place that it tells; a label that Here was never called with tells instruction 0.
type Writer struct {
	list   []instruction
	places [MaxLabels]int
}

// Here lets the label tell the instruction that is written next.
func (w *Writer) Here(label int) {
	if label < 0 || label >= MaxLabels {
		return
	}
	w.places[label] = len(w.list)
}

// End ends the program with the status.
func (w *Writer) End(status int) { w.write(opEnd, 0, 0, status) }

// Number lets a become k.
func (w *Writer) Number(a int, k int) { w.write(opNumber, a, 0, k) }

// Copy lets a become b.
func (w *Writer) Copy(a int, b int) { w.write(opCopy, a, b, 0) }

// Add lets a become a plus b.
func (w *Writer) Add(a int, b int) { w.write(opAdd, a, b, 0) }

// Subtract lets a become a less b.
func (w *Writer) Subtract(a int, b int) { w.write(opSubtract, a, b, 0) }

// Multiply lets a become a times b.
func (w *Writer) Multiply(a int, b int) { w.write(opMultiply, a, b, 0) }

// Load lets a become the byte at the place b + k.
func (w *Writer) Load(a int, b int, k int) { w.write(opLoad, a, b, k) }

// Store lets the byte at the place b + k become the lowest byte of a.
func (w *Writer) Store(a int, b int, k int) { w.write(opStore, a, b, k) }

// Go goes on at the label.
func (w *Writer) Go(label int) { w.write(opGo, 0, 0, label) }

// GoSame goes on at the label if a is b.
func (w *Writer) GoSame(a int, b int, label int) { w.write(opGoSame, a, b, label) }

// GoNotSame goes on at the label if a is not b.
func (w *Writer) GoNotSame(a int, b int, label int) { w.write(opGoNotSame, a, b, label) }

func (w *Writer) write(op int, a int, b int, k int) {
	w.list = append(w.list, instruction{op: op, a: a, b: b, k: k})
}

// Text answers what has been written as a text, each label turned into the instruction that it tells.
func (w *Writer) Text() string {
	var list []instruction
	for _, i := range w.list {
		if i.saysWhere() {
			i.k = w.placeOf(i.k)
		}
		list = append(list, i)
	}
	return textOf(list)
}

func (w *Writer) placeOf(label int) int {
	if label < 0 || label >= MaxLabels {
		return 0
	}
	return w.places[label]
}
