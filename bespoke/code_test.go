package bespoke_test

import (
	"strings"
	"testing"

	"bespoke/api"
	"bespoke/bespoke"
)

// inst is an instruction: what it does, A, B, K.
type inst struct{ op, a, b, k int }

func code(list ...inst) string {
	var bytes []byte
	for _, i := range list {
		bytes = append(bytes, byte(i.op), byte(i.a), byte(i.b), byte(i.k), byte(i.k>>8))
	}
	return string(bytes)
}

// ends stands behind what a test is about.
var ends = inst{0, 0, 0, 0}

// many is code of so many instructions: ends, behind others.
func many(count int) string {
	return strings.Repeat(code(inst{3, 0, 1, 0}), count-1) + code(ends)
}

func wantCode(t *testing.T, text string) {
	t.Helper()
	if e := bespoke.Check(text); e != api.OK {
		t.Errorf("P6: Check(%.60q) = %d", text, e)
	}
}

// wantNoCode asks all calls that take code, with arguments that would be errors named later.
func wantNoCode(t *testing.T, text string) {
	t.Helper()
	if e := bespoke.Check(text); e != api.ErrCode {
		t.Errorf("P6: Check(%.60q) = %d", text, e)
	}
	wantNoRun(t, text, "", 0, 0, 0, 9, api.ErrCode)
	wantNoRun(t, text, tooLong, -1, -1, -1, -1, api.ErrCode)
	if s, e := bespoke.Trim(text); s != "" || e != api.ErrCode {
		t.Errorf("P8: Trim(%.60q) = %.60q, %d", text, s, e)
	}
}

var tooLong = strings.Repeat("x", api.MaxMemory+1)

func TestP6NumberOfInstructions(t *testing.T) {
	wantCode(t, many(1))
	wantCode(t, many(2))
	wantCode(t, many(api.MaxCode-1))
	wantCode(t, many(api.MaxCode))
	wantNoCode(t, "")
	wantNoCode(t, many(api.MaxCode+1))
	wantNoCode(t, many(2*api.MaxCode))
}

func TestP6NumberOfBytes(t *testing.T) {
	for n := 0; n <= 30; n++ {
		text := strings.Repeat("\x00", n)
		if n > 0 && n%5 == 0 {
			wantCode(t, text)
		} else {
			wantNoCode(t, text)
		}
	}
	for n := 1; n < 5; n++ {
		wantNoCode(t, many(api.MaxCode)+many(1)[:n])
		wantNoCode(t, many(api.MaxCode)[n:])
	}
}

// Every first byte, every A and every B, whatever the instruction needs of them.
func TestP6EveryByte(t *testing.T) {
	for op := 0; op < 256; op++ {
		if op <= 14 {
			wantCode(t, code(inst{op, 15, 15, 0}, ends))
		} else {
			wantNoCode(t, code(inst{op, 0, 0, 0}, ends))
		}
	}
	for op := 0; op <= 14; op++ {
		for n := 0; n < 256; n++ {
			if n <= 15 {
				wantCode(t, code(inst{op, n, 0, 0}, ends))
				wantCode(t, code(inst{op, 0, n, 0}, ends))
			} else {
				wantNoCode(t, code(inst{op, n, 0, 0}, ends))
				wantNoCode(t, code(inst{op, 0, n, 0}, ends))
			}
		}
	}
}

func TestP6EveryK(t *testing.T) {
	for op := 0; op <= 14; op++ {
		below := 65536
		if op == 8 {
			below = 32
		}
		if op >= 11 {
			below = 3
		}
		for k := 0; k < 65536 && !t.Failed(); k++ {
			want := api.OK
			if k >= below {
				want = api.ErrCode
			}
			if e := bespoke.Check(code(inst{op, 0, 0, k}, inst{2, 0, 0, 65535}, ends)); e != want {
				t.Errorf("P6: an instruction %d with K %d among 3: %d, want %d", op, k, e, want)
			}
		}
	}
}

// K counts all instructions, also where its high byte is needed.
func TestP6WhereToGoOn(t *testing.T) {
	for _, count := range []int{1, 2, 255, 256, 257, 300, api.MaxCode} {
		ahead := strings.Repeat(code(inst{3, 0, 1, 0}), count-1)
		for _, k := range []int{0, count - 1} {
			wantCode(t, ahead+code(inst{11, 0, 0, k}))
		}
		for _, k := range []int{count, count + 1, count + 256, 65535} {
			wantNoCode(t, ahead+code(inst{11, 0, 0, k}))
		}
	}
	for _, op := range []int{11, 12, 13, 14} {
		wantCode(t, code(inst{op, 0, 0, api.MaxCode - 1})+many(api.MaxCode-1))
		wantNoCode(t, code(inst{op, 0, 0, api.MaxCode})+many(api.MaxCode-1))
		wantNoCode(t, code(inst{op, 0, 0, api.MaxCode - 1})+many(api.MaxCode-2))
	}
}

func TestP6LastInstruction(t *testing.T) {
	for op := 0; op <= 14; op++ {
		for _, ahead := range []string{"", many(1), many(7)} {
			if op == 0 || op == 11 {
				wantCode(t, ahead+code(inst{op, 0, 0, 0}))
			} else {
				wantNoCode(t, ahead+code(inst{op, 0, 0, 0}))
			}
		}
	}
}

// A wrong instruction is no code wherever it stands, reached or not.
func TestP6EveryInstructionCounts(t *testing.T) {
	good := many(40)
	for _, wrong := range []inst{{15, 0, 0, 0}, {0, 16, 0, 0}, {0, 0, 16, 0}, {11, 0, 0, 40}, {12, 0, 0, 40}, {8, 0, 0, 32}} {
		for n := 0; n < 40; n++ {
			wantNoCode(t, good[:5*n]+code(wrong)+good[5*n+5:])
		}
	}
	wantNoCode(t, code(ends, inst{15, 0, 0, 0}, ends))
}

func TestP6Examples(t *testing.T) {
	wantCode(t, "\x01\x03\x00\x05\x00\x03\x00\x03\x00\x00\x00\x00\x00\x07\x00")
	wantCode(t, "\x0b\x00\x00\x00\x00")
	wantNoCode(t, "\x01\x00\x00\x00\x00")
	wantNoCode(t, "\x0b\x00\x00\x01\x00")
}

func TestP1LongCode(t *testing.T) {
	for _, s := range longTexts() {
		wantNoCode(t, s)
	}
	for _, s := range []string{code(ends), code(inst{11, 0, 0, 0}), code(inst{3, 0, 1, 0}), "\x0b", "{u1}"} {
		wantNoCode(t, strings.Repeat(s, 1000000))
	}
}
