package bespoke_test

import (
	"math"
	"strings"
	"testing"

	"bespoke/api"
	"bespoke/bespoke"
)

const top = api.MaxWord

func wantRun(t *testing.T, text string, memory string, a int, b int, c int, fuel int, want api.Outcome) {
	t.Helper()
	if o, e := bespoke.Run(text, memory, a, b, c, fuel); o != want || e != api.OK {
		t.Errorf("P7: Run(%.60q, %.20q, %d, %d, %d, %d) = %+v, %d, want %+v", text, memory, a, b, c, fuel, o, e, want)
	}
}

func wantNoRun(t *testing.T, text string, memory string, a int, b int, c int, fuel int, errno api.Errno) {
	t.Helper()
	if o, e := bespoke.Run(text, memory, a, b, c, fuel); o != (api.Outcome{}) || e != errno {
		t.Errorf("P7: Run(%.60q, %.20q, %d, %d, %d, %d) = %+v, %d, want %d", text, memory, a, b, c, fuel, o, e, errno)
	}
}

func TestP7Words(t *testing.T) {
	for _, c := range []struct{ op, k, a, b, want int }{
		{1, 0, 5, 6, 0}, {1, 255, 5, 6, 255}, {1, 256, 5, 6, 256}, {1, 513, 5, 6, 513}, {1, 65535, 5, 6, 65535},
		{2, 9, 5, 6, 6}, {2, 9, 5, 0, 0}, {2, 9, 5, top, top},
		{3, 9, 5, 6, 11}, {3, 0, 0, 0, 0}, {3, 0, top, 0, top}, {3, 0, top, 1, 0}, {3, 0, 1, top, 0}, {3, 0, top - 5, 5, top}, {3, 0, top, top, top - 1}, {3, 0, 1 << 31, 1 << 31, 0}, {3, 0, 1<<31 - 1, 1, 1 << 31},
		{4, 9, 6, 5, 1}, {4, 0, 5, 6, top}, {4, 0, 0, 1, top}, {4, 0, 0, top, 1}, {4, 0, top, top, 0}, {4, 0, top, 0, top}, {4, 0, 0, 1 << 31, 1 << 31},
		{5, 9, 5, 6, 30}, {5, 0, 0, top, 0}, {5, 0, 1, top, top}, {5, 0, 2, top, top - 1}, {5, 0, top, top, 1}, {5, 0, 65535, 65537, top}, {5, 0, 65536, 65535, 65536 * 65535}, {5, 0, 65536, 65536, 0}, {5, 0, 65536, 65537, 65536}, {5, 0, 1 << 31, 2, 0}, {5, 0, 1 << 31, 3, 1 << 31}, {5, 0, 123456789, 987654321, 123456789 * 987654321 % (top + 1)},
		{6, 9, 12, 10, 8}, {6, 0, top, 0, 0}, {6, 0, top, top, top}, {6, 0, 1 << 31, top, 1 << 31}, {6, 0, 0xf0f0f0f0, 0xff00ff00, 0xf000f000},
		{7, 9, 12, 10, 6}, {7, 0, top, 0, top}, {7, 0, top, top, 0}, {7, 0, 1 << 31, top, 1<<31 - 1}, {7, 0, 0xf0f0f0f0, 0xff00ff00, 0x0ff00ff0},
		{8, 0, 5, 6, 6}, {8, 1, 5, 6, 3}, {8, 1, 5, 7, 3}, {8, 2, 5, 7, 1}, {8, 3, 5, 7, 0}, {8, 8, 5, 65535, 255}, {8, 0, 5, top, top}, {8, 31, 5, top, 1}, {8, 31, 5, 1 << 31, 1}, {8, 31, 5, 1<<31 - 1, 0}, {8, 30, 5, top, 3}, {8, 1, 5, top, 1<<31 - 1},
	} {
		wantRun(t, code(inst{c.op, 0, 1, c.k}, ends), "m", c.a, c.b, 7, 2, api.Outcome{Memory: "m", Result: c.want, Steps: 2})
	}
	for k := 0; k <= 31; k++ {
		wantRun(t, code(inst{8, 0, 1, k}, ends), "", 0, top, 0, 2, api.Outcome{Result: top >> k, Steps: 2})
	}
}

// The same register as A and B.
func TestP7OneRegisterTwice(t *testing.T) {
	for _, c := range []struct{ op, k, a, want int }{
		{2, 0, 7, 7}, {3, 0, 7, 14}, {3, 0, top, top - 1}, {4, 0, 7, 0}, {5, 0, 7, 49}, {5, 0, 65536, 0}, {6, 0, 7, 7}, {7, 0, 7, 0}, {8, 1, 7, 3}, {9, 0, 1, 200},
	} {
		wantRun(t, code(inst{c.op, 0, 0, c.k}, ends), "\x64\xc8", c.a, 0, 0, 2, api.Outcome{Memory: "\x64\xc8", Result: c.want, Steps: 2})
	}
	wantRun(t, code(inst{10, 0, 0, 0}, ends), "xxx", 1, 0, 0, 2, api.Outcome{Memory: "x\x01x", Result: 1, Steps: 2})
	for _, c := range []struct{ op, status int }{{12, 2}, {13, 1}, {14, 1}} {
		wantRun(t, code(inst{c.op, 0, 0, 2}, inst{0, 0, 0, 1}, inst{0, 0, 0, 2}), "", 7, 0, 0, 2, api.Outcome{Result: 7, Status: c.status, Steps: 2})
	}
}

// Each of the sixteen is a register of its own; the first three are given, the others 0.
func TestP7Registers(t *testing.T) {
	given := []int{11, 22, 33, 0, 0, 0, 0, 0, 0, 0, 0, 0, 0, 0, 0, 0}
	for n, word := range given {
		wantRun(t, code(inst{2, 0, n, 0}, ends), "", 11, 22, 33, 2, api.Outcome{Result: word, Steps: 2})
	}
	var fill []inst
	for n := range given {
		fill = append(fill, inst{1, n, 0, 1000 + n})
	}
	for n := range given {
		wantRun(t, code(append(fill, inst{2, 0, n, 0}, ends)...), "", 11, 22, 33, 18, api.Outcome{Result: 1000 + n, Steps: 18})
	}
	wantRun(t, code(ends), "", top, top, top, 1, api.Outcome{Result: top, Steps: 1})
}

// A and B change roles: what is read is not written.
func TestP7OnlyAChanges(t *testing.T) {
	for op := 1; op <= 14; op++ {
		for n, word := range []int{1, 2, 1} {
			text := code(inst{op, 5, n, 1}, inst{2, 0, n, 0}, ends)
			wantRun(t, text, "abcd", 1, 2, 1, 3, api.Outcome{Memory: changed("abcd", op, word), Result: word, Steps: 3})
		}
	}
}

// changed is the memory behind an instruction that may store the 0 of register 5 behind the word.
func changed(memory string, op int, word int) string {
	if op != 10 {
		return memory
	}
	return memory[:word+1] + "\x00" + memory[word+2:]
}

func TestP7Load(t *testing.T) {
	load := func(k int) string { return code(inst{9, 0, 1, k}, ends) }
	for n := 0; n < 256; n++ {
		m := "x" + string([]byte{byte(n)}) + "x"
		wantRun(t, load(1), m, top, 0, 0, 2, api.Outcome{Memory: m, Result: n, Steps: 2})
		wantRun(t, load(0), m, top, 1, 0, 2, api.Outcome{Memory: m, Result: n, Steps: 2})
	}
	full := strings.Repeat("x", api.MaxMemory-1) + "y"
	for k := 0; k < api.MaxMemory; k++ {
		wantRun(t, load(k), full, 0, api.MaxMemory-1-k, 0, 2, api.Outcome{Memory: full, Result: 'y', Steps: 2})
		wantNoRun(t, load(k), full, 0, api.MaxMemory-k, 0, 2, api.ErrFault)
	}
}

func TestP7Store(t *testing.T) {
	store := func(k int) string { return code(inst{10, 0, 1, k}, ends) }
	for _, word := range []int{0, 1, 255, 256, 257, 511, 65535, 65536, 0x01020304, top} {
		for place := 0; place < 4; place++ {
			want := "abcd"[:place] + string([]byte{byte(word % 256)}) + "abcd"[place+1:]
			wantRun(t, store(place), "abcd", word, 0, 0, 2, api.Outcome{Memory: want, Result: word, Steps: 2})
			wantRun(t, store(0), "abcd", word, place, 0, 2, api.Outcome{Memory: want, Result: word, Steps: 2})
		}
	}
	full := strings.Repeat("x", api.MaxMemory)
	for k := 0; k < api.MaxMemory; k++ {
		wantRun(t, store(k), full, 'y', api.MaxMemory-1-k, 0, 2, api.Outcome{Memory: full[1:] + "y", Result: 'y', Steps: 2})
		wantNoRun(t, store(k), full, 'y', api.MaxMemory-k, 0, 2, api.ErrFault)
	}
}

// Places the memory does not have; they are not taken modulo anything.
func TestP7Fault(t *testing.T) {
	for _, op := range []int{9, 10} {
		for _, c := range []struct{ b, k, bytes int }{
			{0, 0, 0}, {1, 0, 1}, {0, 1, 1}, {0, 65535, 5}, {top, 0, 5}, {top, 1, 5}, {top, 2, 5}, {top, 65535, 5}, {top - 1, 2, 5}, {1 << 31, 0, 5}, {top, 0, api.MaxMemory}, {top, 1, api.MaxMemory}, {65536, 0, 5}, {256, 0, 5}, {0, 256, 5}, {api.MaxMemory, 0, api.MaxMemory},
		} {
			wantNoRun(t, code(inst{op, 0, 1, c.k}, ends), strings.Repeat("x", c.bytes), 0, c.b, 0, 9, api.ErrFault)
		}
	}
	// Only an instruction that is made wants its place.
	wantRun(t, code(ends, inst{9, 0, 0, 0}, ends), "", 3, 0, 0, 9, api.Outcome{Result: 3, Steps: 1})
	wantRun(t, code(inst{12, 0, 1, 2}, inst{9, 0, 0, 0}, ends), "", 0, 0, 0, 9, api.Outcome{Steps: 2})
	// What no instruction needs wants no place.
	for _, op := range []int{0, 1, 2, 3, 4, 5, 6, 7, 11, 12, 13, 14} {
		if _, e := bespoke.Run(code(inst{op, 3, 1, 1}, ends), "", 0, top, 0, 9); e != api.OK {
			t.Errorf("P7: an instruction %d without a memory: %d", op, e)
		}
	}
}

// A fault comes as soon as it is met, and fuel runs out as soon as it is used up.
func TestP7FaultOrFuel(t *testing.T) {
	text := code(inst{3, 0, 1, 0}, inst{3, 0, 1, 0}, inst{9, 0, 1, 0}, ends)
	for fuel := 0; fuel <= 6; fuel++ {
		if fuel <= 2 {
			wantNoRun(t, text, "", 0, 0, 0, fuel, api.ErrFuel)
		} else {
			wantNoRun(t, text, "", 0, 0, 0, fuel, api.ErrFault)
		}
	}
	loop := code(inst{10, 0, 1, 0}, inst{3, 1, 2, 0}, inst{11, 0, 0, 0})
	wantNoRun(t, loop, "xxxx", 0, 0, 1, 12, api.ErrFuel)
	wantNoRun(t, loop, "xxxx", 0, 0, 1, 13, api.ErrFault)
	wantNoRun(t, loop, "xxxx", 0, 0, 0, api.MaxFuel, api.ErrFuel)
}

func TestP7GoingOn(t *testing.T) {
	for _, c := range []struct {
		a, b             int
		same, not, below bool
	}{
		{0, 0, true, false, false}, {0, 1, false, true, true}, {1, 0, false, true, false}, {top, top, true, false, false}, {top, 0, false, true, false}, {0, top, false, true, true}, {top - 1, top, false, true, true}, {1 << 31, 1<<31 - 1, false, true, false}, {1<<31 - 1, 1 << 31, false, true, true}, {256, 0, false, true, false}, {65536, 0, false, true, false}, {1, 65536, false, true, true},
	} {
		for op, goes := range map[int]bool{11: true, 12: c.same, 13: c.not, 14: c.below} {
			status := 1
			if goes {
				status = 2
			}
			text := code(inst{op, 1, 2, 2}, inst{0, 0, 0, 1}, inst{0, 0, 0, 2})
			wantRun(t, text, "m", 5, c.a, c.b, 2, api.Outcome{Memory: "m", Result: 5, Status: status, Steps: 2})
		}
	}
	// To the last of all instructions, and back.
	far := code(inst{11, 0, 0, 799}, inst{0, 0, 0, 9}) + strings.Repeat(code(inst{1, 0, 0, 8}), 797) + code(inst{11, 0, 0, 1})
	wantRun(t, far, "", 5, 0, 0, 3, api.Outcome{Result: 5, Status: 9, Steps: 3})
}

func TestP7Status(t *testing.T) {
	for status := 0; status < 65536 && !t.Failed(); status++ {
		o, e := bespoke.Run(code(inst{0, 15, 15, status}), "", 5, 0, 0, 1)
		if o != (api.Outcome{Result: 5, Status: status, Steps: 1}) || e != api.OK {
			t.Errorf("P7: status %d: %+v, %d", status, o, e)
		}
	}
}

// counting is code that goes round as often as register 0 says, three steps each time, and makes three more and so many besides.
func counting(besides int) string {
	round := code(inst{1, 1, 0, 1}, inst{12, 0, 3, 4}, inst{4, 0, 1, 0}, inst{11, 0, 0, 1})
	return round + strings.Repeat(code(inst{2, 5, 5, 0}), besides) + code(inst{0, 0, 0, 6})
}

func TestP7Fuel(t *testing.T) {
	for n := 0; n <= 100; n++ {
		steps := 3*n + 3
		for fuel := steps - 3; fuel < steps; fuel++ {
			wantNoRun(t, counting(0), "m", n, 0, 0, fuel, api.ErrFuel)
		}
		for _, fuel := range []int{steps, steps + 1, api.MaxFuel} {
			wantRun(t, counting(0), "m", n, 0, 0, fuel, api.Outcome{Memory: "m", Status: 6, Steps: steps})
		}
	}
	// Just as many steps as there may be, one less fuel, and one step more.
	wantRun(t, counting(2), "", 6665, 0, 0, api.MaxFuel, api.Outcome{Status: 6, Steps: api.MaxFuel})
	wantNoRun(t, counting(2), "", 6665, 0, 0, api.MaxFuel-1, api.ErrFuel)
	wantNoRun(t, counting(3), "", 6665, 0, 0, api.MaxFuel, api.ErrFuel)
	for _, fuel := range []int{0, 1, 2, 1000, api.MaxFuel} {
		wantNoRun(t, code(inst{11, 0, 0, 0}), "m", 1, 2, 3, fuel, api.ErrFuel)
	}
}

func TestP7Memory(t *testing.T) {
	for _, n := range []int{0, 1, 255, 256, 1000, api.MaxMemory - 1, api.MaxMemory} {
		m := strings.Repeat("\xff", n)
		wantRun(t, code(ends), m, 5, 0, 0, 1, api.Outcome{Memory: m, Result: 5, Steps: 1})
	}
	for _, n := range []int{api.MaxMemory + 1, 2 * api.MaxMemory, 65536, 5000000} {
		wantNoRun(t, code(ends), strings.Repeat("\xff", n), 5, 0, 0, 1, api.ErrLong)
	}
}

func TestP7Arguments(t *testing.T) {
	for _, n := range []int{0, 1, 65536, 1 << 31, top - 1, top} {
		wantRun(t, code(ends), "", n, 0, 0, 1, api.Outcome{Result: n, Steps: 1})
		wantRun(t, code(inst{2, 0, 1, 0}, ends), "", 0, n, 0, 2, api.Outcome{Result: n, Steps: 2})
		wantRun(t, code(inst{2, 0, 2, 0}, ends), "", 0, 0, n, 2, api.Outcome{Result: n, Steps: 2})
	}
	for _, n := range []int{-1, -2, -256, -1 << 31, -1 << 32, -top, math.MinInt, math.MinInt + 1, top + 1, top + 2, 1 << 33, 1 << 62, math.MaxInt} {
		wantNoRun(t, code(ends), "", n, 0, 0, 1, api.ErrArg)
		wantNoRun(t, code(ends), "", 0, n, 0, 1, api.ErrArg)
		wantNoRun(t, code(ends), "", 0, 0, n, 1, api.ErrArg)
		wantNoRun(t, code(ends), "", 0, 0, 0, n, api.ErrArg)
	}
	wantNoRun(t, code(ends), "", 0, 0, 0, api.MaxFuel+1, api.ErrArg)
	wantNoRun(t, code(ends), "", 0, 0, 0, top, api.ErrArg)
	wantRun(t, code(ends), "", 0, 0, 0, api.MaxFuel, api.Outcome{Steps: 1})
	wantNoRun(t, code(ends), "", 0, 0, 0, 0, api.ErrFuel)
}

func TestP7OrderOfErrors(t *testing.T) {
	fault := code(inst{9, 0, 1, 0}, ends)
	none := code(inst{15, 0, 0, 0}, ends)
	wantNoRun(t, none, tooLong, -1, 0, 0, 9, api.ErrCode)
	wantNoRun(t, none, "", 0, -1, 0, 9, api.ErrCode)
	wantNoRun(t, none, "", 0, 0, 0, 0, api.ErrCode)
	wantNoRun(t, fault, tooLong, -1, 0, 0, 9, api.ErrLong)
	wantNoRun(t, fault, tooLong, 0, 0, 0, api.MaxFuel+1, api.ErrLong)
	wantNoRun(t, fault, tooLong, 0, top, 0, 9, api.ErrLong)
	wantNoRun(t, fault, tooLong, 0, 0, 0, 0, api.ErrLong)
	wantNoRun(t, fault, "", -1, 0, 0, 9, api.ErrArg)
	wantNoRun(t, fault, "", 0, 0, top+1, 0, api.ErrArg)
	wantNoRun(t, fault, "", 0, 0, 0, -1, api.ErrArg)
	wantNoRun(t, code(inst{11, 0, 0, 0}), "", 0, top+1, 0, 9, api.ErrArg)
}

func TestP7Examples(t *testing.T) {
	sum := "\x01\x03\x00\x05\x00\x03\x00\x03\x00\x00\x00\x00\x00\x07\x00"
	wantRun(t, sum, "as it was", top, 0, 0, 3, api.Outcome{Memory: "as it was", Result: 4, Status: 7, Steps: 3})
	wantNoRun(t, sum, "as it was", top, 0, 0, 2, api.ErrFuel)
	load := "\x09\x00\x01\x00\x00\x00\x00\x00\x00\x00"
	wantRun(t, load, "A", 0, 0, 0, 9, api.Outcome{Memory: "A", Result: 65, Steps: 2})
	wantNoRun(t, load, "A", 0, 1, 0, 9, api.ErrFault)
}
