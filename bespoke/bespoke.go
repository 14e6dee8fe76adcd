// Package bespoke: tables made to measure, as programs of a small machine: see DOC.md.
package bespoke

import (
	"bespoke/api"
	"bespoke/layout"
	"bespoke/machine"
	"bespoke/program"
)

// Size tells a type's size and step (P3).
func Size(typ string) (int, int, api.Errno) {
	shape, ok := layout.Parse(typ)
	if !ok {
		return 0, 0, api.ErrType
	}
	return shape.Size(), shape.Step(), api.OK
}

// Encode tells how a value lies (P4).
func Encode(typ string, value string, fill int) (string, api.Errno) {
	shape, ok := layout.Parse(typ)
	if !ok {
		return "", api.ErrType
	}
	// A wrong value is named ahead of a wrong fill, so the value is laid first, with whatever fill.
	bytes, ok := shape.Lay(value, byte(fill&255))
	if !ok {
		return "", api.ErrValue
	}
	if fill < 0 || fill > 255 {
		return "", api.ErrArg
	}
	return bytes, api.OK
}

// Decode tells which value lies there (P5).
func Decode(typ string, bytes string) (string, api.Errno) {
	shape, ok := layout.Parse(typ)
	if !ok {
		return "", api.ErrType
	}
	value, ok := shape.Tell(bytes)
	if !ok {
		return "", api.ErrBytes
	}
	return value, api.OK
}

// Check tells whether it is code (P6).
func Check(code string) api.Errno {
	_, ok := machine.Parse(code)
	if !ok {
		return api.ErrCode
	}
	return api.OK
}

// Run runs code (P7).
func Run(code string, memory string, a int, b int, c int, fuel int) (api.Outcome, api.Errno) {
	program, ok := machine.Parse(code)
	if !ok {
		return api.Outcome{}, api.ErrCode
	}
	if len(memory) > api.MaxMemory {
		return api.Outcome{}, api.ErrLong
	}
	start := machine.Start{A: a, B: b, C: c, Fuel: fuel}
	if !start.Allowed() {
		return api.Outcome{}, api.ErrArg
	}
	return program.Run(memory, start)
}

// Trim leaves out what cannot be reached (P8).
func Trim(code string) (string, api.Errno) {
	program, ok := machine.Parse(code)
	if !ok {
		return "", api.ErrCode
	}
	trimmed := program.Trim()
	return trimmed.Text(), api.OK
}

// Room tells how many bytes a program's table needs (P9).
func Room(key string, value string, slots int) (int, api.Errno) {
	m, e := measure(key, value, slots)
	if e != api.OK {
		return 0, e
	}
	return m.plan.Room(), api.OK
}

// Compile writes the program for a table (P9, P10).
func Compile(key string, value string, slots int) (string, api.Errno) {
	m, e := measure(key, value, slots)
	if e != api.OK {
		return "", e
	}
	return m.plan.Code(), api.OK
}

// Measures are what a table is made to: its types, and the plan of its program.
type measures struct {
	key   layout.Shape
	value layout.Shape
	plan  program.Plan
}

// measure takes the measures, with the errors that Room, Compile and New have alike.
func measure(key string, value string, slots int) (measures, api.Errno) {
	keyShape, ok := layout.Parse(key)
	if !ok {
		return measures{}, api.ErrType
	}
	valueShape, ok := layout.Parse(value)
	if !ok {
		return measures{}, api.ErrType
	}
	plan, ok := program.Make(keyShape, valueShape, slots)
	if !ok {
		return measures{}, api.ErrArg
	}
	return measures{key: keyShape, value: valueShape, plan: plan}, api.OK
}
