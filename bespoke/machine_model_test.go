package bespoke_test

import (
	"math/big"
	"math/rand"
	"strings"
	"testing"

	"bespoke/api"
	"bespoke/bespoke"
)

// A modelMachine runs code by the document's words, on numbers without limits, and straight from the code's bytes.
type modelMachine struct {
	registers [16]*big.Int
	memory    []byte
}

var modulus = big.NewInt(api.MaxWord + 1)

func modelRun(text string, memory string, a int, b int, c int, fuel int) (api.Outcome, api.Errno) {
	m := modelMachine{memory: []byte(memory)}
	for i := range m.registers {
		m.registers[i] = new(big.Int)
	}
	m.registers[0].SetInt64(int64(a))
	m.registers[1].SetInt64(int64(b))
	m.registers[2].SetInt64(int64(c))
	at := 0
	for steps := 1; steps <= fuel; steps++ {
		i := instAt(text, at)
		if i.op == 0 {
			return api.Outcome{Memory: string(m.memory), Result: int(m.registers[0].Int64()), Status: i.k, Steps: steps}, api.OK
		}
		next, ok := m.step(i, at)
		if !ok {
			return api.Outcome{}, api.ErrFault
		}
		at = next
	}
	return api.Outcome{}, api.ErrFuel
}

func instAt(text string, n int) inst {
	b := []byte(text[5*n : 5*n+5])
	return inst{int(b[0]), int(b[1]), int(b[2]), int(b[3]) | int(b[4])<<8}
}

// step answers which instruction is next; false, if a place is not there.
func (m *modelMachine) step(i inst, at int) (int, bool) {
	a, b, k := m.registers[i.a], m.registers[i.b], big.NewInt(int64(i.k))
	r := new(big.Int).Set(a)
	place := new(big.Int).Add(b, k)
	if (i.op == 9 || i.op == 10) && place.Cmp(big.NewInt(int64(len(m.memory)))) >= 0 {
		return 0, false
	}
	goes := false
	switch i.op {
	case 1:
		r.Set(k)
	case 2:
		r.Set(b)
	case 3:
		r.Add(a, b)
	case 4:
		r.Sub(a, b)
	case 5:
		r.Mul(a, b)
	case 6:
		r.And(a, b)
	case 7:
		r.Xor(a, b)
	case 8:
		r.Div(b, new(big.Int).Exp(big.NewInt(2), k, nil))
	case 9:
		r.SetInt64(int64(m.memory[place.Int64()]))
	case 10:
		m.memory[place.Int64()] = byte(new(big.Int).Mod(a, big.NewInt(256)).Int64())
	default:
		goes = i.op == 11 || i.op == 12 && a.Cmp(b) == 0 || i.op == 13 && a.Cmp(b) != 0 || i.op == 14 && a.Cmp(b) < 0
	}
	m.registers[i.a] = r.Mod(r, modulus)
	if goes {
		return i.k, true
	}
	return at + 1, true
}

// modelTrim marks what can be reached until nothing more is marked, then counts where each instruction comes to stand.
func modelTrim(text string) string {
	count := len(text) / 5
	reached := make([]bool, count+1)
	reached[0] = true
	for again := true; again; {
		again = false
		for n := 0; n < count; n++ {
			for _, to := range follows(instAt(text, n), n) {
				if reached[n] && !reached[to] {
					reached[to] = true
					again = true
				}
			}
		}
	}
	var list []inst
	for n := 0; n < count; n++ {
		i := instAt(text, n)
		if !reached[n] {
			continue
		}
		if i.op >= 11 {
			to := 0
			for _, r := range reached[:i.k] {
				if r {
					to++
				}
			}
			i.k = to
		}
		list = append(list, i)
	}
	return code(list...)
}

func follows(i inst, n int) []int {
	switch {
	case i.op == 0:
		return nil
	case i.op == 11:
		return []int{i.k}
	case i.op >= 12:
		return []int{i.k, n + 1}
	}
	return []int{n + 1}
}

// randomCode takes few registers and mostly small numbers, so that its parts have to do with one another.
func randomCode(r *rand.Rand, most int) string {
	n := 1 + r.Intn(most)
	var list []inst
	for len(list) < n {
		i := inst{r.Intn(15), r.Intn(5), r.Intn(5), []int{r.Intn(4), r.Intn(40), r.Intn(65536)}[r.Intn(3)]}
		if i.op == 0 && r.Intn(3) > 0 {
			i.op = 11 + r.Intn(4)
		}
		if i.op >= 11 {
			i.k = r.Intn(n)
		}
		if i.op == 8 {
			i.k %= 32
		}
		list = append(list, i)
	}
	last := &list[n-1]
	*last = inst{11 * r.Intn(2), r.Intn(16), r.Intn(16), r.Intn(n)}
	return code(list...)
}

func randomWord(r *rand.Rand) int {
	return []int{r.Intn(3), r.Intn(40), r.Intn(api.MaxWord + 1), api.MaxWord - r.Intn(3), 1 << r.Intn(32)}[r.Intn(5)]
}

func TestRunAgainstModel(t *testing.T) {
	r := rand.New(rand.NewSource(2))
	var seen [api.ErrFuel + 1]int
	for n := 0; n < 60000 && !t.Failed(); n++ {
		text := randomCode(r, 30)
		memory := make([]byte, r.Intn(60))
		for i := range memory {
			memory[i] = byte(r.Intn(256))
		}
		a, b, c, fuel := randomWord(r), randomWord(r), randomWord(r), r.Intn(100)
		want, errno := modelRun(text, string(memory), a, b, c, fuel)
		seen[errno]++
		if errno == api.OK {
			wantRun(t, text, string(memory), a, b, c, fuel, want)
		} else {
			wantNoRun(t, text, string(memory), a, b, c, fuel, errno)
		}
	}
	if !t.Failed() && (seen[api.OK] < 1000 || seen[api.ErrFault] < 1000 || seen[api.ErrFuel] < 1000) {
		t.Errorf("too few cases: %v", seen)
	}
}

// What is trimmed is code, cannot be trimmed further, and runs as before.
func TestTrimAgainstModel(t *testing.T) {
	r := rand.New(rand.NewSource(3))
	shorter, same := 0, 0
	for n := 0; n < 20000 && !t.Failed(); n++ {
		text := randomCode(r, []int{5, 30, api.MaxCode}[r.Intn(3)])
		want := modelTrim(text)
		wantTrim(t, text, want)
		wantTrim(t, want, want)
		wantCode(t, want)
		if want == text {
			same++
			continue
		}
		shorter++
		memory := strings.Repeat("\x05\x80", r.Intn(30))
		a, b, c, fuel := randomWord(r), randomWord(r), randomWord(r), r.Intn(1000)
		first, e1 := bespoke.Run(text, memory, a, b, c, fuel)
		second, e2 := bespoke.Run(want, memory, a, b, c, fuel)
		if first != second || e1 != e2 {
			t.Errorf("P8: %.80q runs to %+v, %d, trimmed to %+v, %d", text, first, e1, second, e2)
		}
	}
	if !t.Failed() && (shorter < 1000 || same < 1000) {
		t.Errorf("too few cases: %d shorter, %d the same", shorter, same)
	}
}

// Any bytes at all are code or not, and every call ends at them.
func TestP1AnyBytes(t *testing.T) {
	r := rand.New(rand.NewSource(4))
	codes := 0
	for n := 0; n < 200000 && !t.Failed(); n++ {
		text := []byte(randomCode(r, 4))
		for i := r.Intn(3); i > 0; i-- {
			text[r.Intn(len(text))] = byte(r.Intn(256))
		}
		if !modelCheck(text) {
			wantNoCode(t, string(text))
			continue
		}
		codes++
		wantCode(t, string(text))
		want, errno := modelRun(string(text), "memory", 1, 2, 3, 20)
		if o, e := bespoke.Run(string(text), "memory", 1, 2, 3, 20); o != want || e != errno {
			t.Errorf("P7: Run(%q, ..) = %+v, %d, want %+v, %d", text, o, e, want, errno)
		}
		wantTrim(t, string(text), modelTrim(string(text)))
	}
	if !t.Failed() && (codes < 1000 || codes > 199000) {
		t.Errorf("%d codes among the texts", codes)
	}
}

// modelCheck is only for texts of whole instructions, not too many.
func modelCheck(text []byte) bool {
	if len(text) == 0 || len(text)%5 != 0 {
		return false
	}
	count := len(text) / 5
	for n := 0; n < count; n++ {
		i := instAt(string(text), n)
		if i.op > 14 || i.a > 15 || i.b > 15 || i.op > 10 && i.k >= count || i.op == 8 && i.k > 31 {
			return false
		}
	}
	last := text[5*count-5]
	return last == 0 || last == 11
}

// The same arguments, with other calls ahead of them, and on memory that an earlier run has written to.
func TestP2MachineSameAgain(t *testing.T) {
	type answer struct {
		check, run, trim api.Errno
		outcome          api.Outcome
		trimmed          string
	}
	ask := func(text string, memory string) answer {
		var a answer
		a.check = bespoke.Check(text)
		a.outcome, a.run = bespoke.Run(text, memory, 7, 2, 3, 50)
		a.trimmed, a.trim = bespoke.Trim(text)
		return a
	}
	texts := []string{code(inst{9, 4, 1, 0}, inst{3, 4, 0, 0}, inst{10, 4, 1, 0}, inst{2, 0, 4, 0}, ends), code(inst{9, 0, 1, 0}, ends), counting(1), code(inst{10, 0, 1, 9}, ends), code(inst{11, 0, 0, 0}), code(inst{11, 0, 0, 2}, ends, ends), "", "no"}
	memories := []string{"", "abc", "abcdefghijkl", tooLong}
	var first []answer
	for _, text := range texts {
		for _, memory := range memories {
			first = append(first, ask(text, memory))
		}
	}
	for i := len(texts) - 1; i >= 0; i-- {
		for j := len(memories) - 1; j >= 0; j-- {
			if again := ask(texts[i], memories[j]); again != first[i*len(memories)+j] {
				t.Errorf("P2: %q, %.20q: %+v, then %+v", texts[i], memories[j], first[i*len(memories)+j], again)
			}
		}
	}
	if memories[1] != "abc" || memories[2] != "abcdefghijkl" {
		t.Errorf("P2: the memories that were handed in are now %q", memories[:3])
	}
}
