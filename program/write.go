package program

import (
	"bespoke/api"
	"bespoke/machine"
)

// The statuses with which a program ends.
const (
	StatusDone   = 0
	StatusNone   = 1
	StatusFull   = 2
	StatusNoTask = 3
)

// What the registers hold. The first three are given; none of them is changed but by telling the number of keys, in register 0.
const (
	regTask   = 0
	regKey    = 1
	regValue  = 2
	regCount  = 3  // the number of keys
	regSize   = 4  // of an entry
	regEntry  = 5  // the place of the entry that is looked at
	regEnd    = 6  // the place behind the last entry
	regNumber = 7  // one that is needed at once
	regByte   = 8  // on its way, or compared
	regOther  = 9  // what it is compared with
	regZero   = 15 // is never changed, so it stays 0
)

// Where to go on.
const (
	toSearch  = 0
	toLook    = 1
	toDiffers = 2
	toAbsent  = 3
	toPresent = 4
	toValue   = 5
	toGive    = 6
	toCount   = 7
	toEmpty   = 8
	toNone    = 9
	toFull    = 10
)

// A writer writes the program of a plan.
type writer struct {
	plan Plan
	out  machine.Writer
}

// Code answers the program. Even with the greatest types and all slots it stays far below MaxCode and MaxSteps, though it goes through its bytes one by one: each byte of a key costs three instructions to compare, and every byte of an entry two to copy.
func (p Plan) Code() string {
	w := writer{plan: p}
	w.choose()
	w.tellCount()
	w.empty()
	w.search()
	w.absent()
	w.present()
	w.layValue()
	w.giveValue()
	w.refuse()
	return w.out.Text()
}

// choose goes where the task is done; what needs no key does not look for it.
func (w *writer) choose() {
	w.goIfTask(api.Find, toSearch)
	w.goIfTask(api.Lay, toSearch)
	w.goIfTask(api.Take, toSearch)
	w.goIfTask(api.Count, toCount)
	w.goIfTask(api.Empty, toEmpty)
	w.out.End(StatusNoTask)
}

func (w *writer) goIfTask(wanted int, label int) {
	w.out.Number(regNumber, wanted)
	w.out.GoSame(regTask, regNumber, label)
}

func (w *writer) tellCount() {
	w.out.Here(toCount)
	w.out.Load(regTask, regZero, 0)
	w.out.End(StatusDone)
}

// empty forgets the entries; their bytes may stay, since only those within the count are looked at.
func (w *writer) empty() {
	w.out.Here(toEmpty)
	w.out.Store(regZero, regZero, 0)
	w.out.End(StatusDone)
}

// search looks at one entry after the other, until it finds the key or comes to the end.
func (w *writer) search() {
	size := w.plan.entrySize()
	w.out.Here(toSearch)
	w.out.Load(regCount, regZero, 0)
	w.out.Number(regSize, size)
	w.out.Number(regEntry, countSize)
	w.out.Copy(regEnd, regCount)
	w.out.Multiply(regEnd, regSize)
	w.out.Add(regEnd, regEntry)
	w.out.Here(toLook)
	w.out.GoSame(regEntry, regEnd, toAbsent)
	for i, place := range w.plan.key {
		w.out.Load(regByte, regKey, place)
		w.out.Load(regOther, regEntry, i)
		w.out.GoNotSame(regByte, regOther, toDiffers)
	}
	w.out.Go(toPresent)
	w.out.Here(toDiffers)
	w.out.Add(regEntry, regSize)
	w.out.Go(toLook)
}

// absent lays the key down behind the last entry, which is where the search has ended, if this is the task and there is a slot left.
func (w *writer) absent() {
	w.out.Here(toAbsent)
	w.out.Number(regNumber, api.Lay)
	w.out.GoNotSame(regTask, regNumber, toNone)
	w.out.Number(regNumber, w.plan.slots)
	w.out.GoSame(regCount, regNumber, toFull)
	for i, place := range w.plan.key {
		w.move(regEntry, i, regKey, place)
	}
	w.out.Number(regNumber, 1)
	w.out.Add(regCount, regNumber)
	w.out.Store(regCount, regZero, 0)
	w.out.Go(toValue)
}

// present takes the key away, if no other task is wanted: the last entry comes into its place, so that no hole is left.
func (w *writer) present() {
	size := w.plan.entrySize()
	w.out.Here(toPresent)
	w.goIfTask(api.Find, toGive)
	w.goIfTask(api.Lay, toValue)
	w.out.Subtract(regEnd, regSize)
	for i := 0; i < size; i++ {
		w.move(regEntry, i, regEnd, i)
	}
	w.out.Number(regNumber, 1)
	w.out.Subtract(regCount, regNumber)
	w.out.Store(regCount, regZero, 0)
	w.out.End(StatusDone)
}

func (w *writer) layValue() {
	w.out.Here(toValue)
	for i, place := range w.plan.value {
		w.move(regEntry, len(w.plan.key)+i, regValue, place)
	}
	w.out.End(StatusDone)
}

func (w *writer) giveValue() {
	w.out.Here(toGive)
	for i, place := range w.plan.value {
		w.move(regValue, place, regEntry, len(w.plan.key)+i)
	}
	w.out.End(StatusDone)
}

// move lets the byte at a place behind one register become the byte at a place behind another.
func (w *writer) move(to int, toPlace int, from int, fromPlace int) {
	w.out.Load(regByte, from, fromPlace)
	w.out.Store(regByte, to, toPlace)
}

func (w *writer) refuse() {
	w.out.Here(toNone)
	w.out.End(StatusNone)
	w.out.Here(toFull)
	w.out.End(StatusFull)
}
