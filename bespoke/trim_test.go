package bespoke_test

import (
	"strings"
	"testing"

	"bespoke/api"
	"bespoke/bespoke"
)

func wantTrim(t *testing.T, text string, want string) {
	t.Helper()
	if s, e := bespoke.Trim(text); s != want || e != api.OK {
		t.Errorf("P8: Trim(%.80q) = %.80q, %d, want %.80q", text, s, e, want)
	}
}

func TestP8Example(t *testing.T) {
	wantTrim(t, "\x0b\x00\x00\x02\x00\x01\x00\x00\x09\x00\x00\x00\x00\x00\x00", "\x0b\x00\x00\x01\x00\x00\x00\x00\x00\x00")
}

// What may follow each instruction: it stands first, instruction 3 is its K, and what is not reached is left out.
func TestP8WhatMayFollow(t *testing.T) {
	next, between, there := inst{0, 1, 1, 1}, inst{0, 2, 2, 2}, inst{0, 3, 3, 3}
	for op := 0; op <= 14; op++ {
		text := code(inst{op, 4, 5, 3}, next, between, there)
		switch {
		case op == 0:
			wantTrim(t, text, code(inst{op, 4, 5, 3}))
		case op < 11:
			wantTrim(t, text, code(inst{op, 4, 5, 3}, next))
		case op == 11:
			wantTrim(t, text, code(inst{op, 4, 5, 1}, there))
		default:
			wantTrim(t, text, code(inst{op, 4, 5, 2}, next, there))
		}
	}
}

// What the instructions would find in the registers does not count.
func TestP8BothWays(t *testing.T) {
	for op := 12; op <= 14; op++ {
		text := code(inst{1, 1, 0, 7}, inst{op, 1, 1, 3}, ends, inst{0, 0, 0, 1})
		wantTrim(t, text, text)
	}
}

func TestP8NothingToLeaveOut(t *testing.T) {
	for _, s := range []string{code(ends), code(inst{11, 7, 8, 0}), code(inst{0, 15, 15, 65535}), counting(5), many(api.MaxCode), many(api.MaxCode - 1), code(inst{12, 0, 0, 799}) + many(api.MaxCode-1)} {
		wantTrim(t, s, s)
	}
	// Backwards through all instructions: each is reached only from the one behind it.
	var back []inst
	back = append(back, inst{11, 0, 0, api.MaxCode - 1}, ends)
	for k := 1; k < api.MaxCode-1; k++ {
		back = append(back, inst{11, 0, 0, k})
	}
	wantTrim(t, code(back...), code(back...))
}

func TestP8NotReached(t *testing.T) {
	for _, c := range []struct{ text, want string }{
		{code(ends, ends), code(ends)},
		{code(inst{0, 3, 4, 5}, inst{11, 0, 0, 0}), code(inst{0, 3, 4, 5})},
		{code(inst{11, 0, 0, 0}, ends), code(inst{11, 0, 0, 0})},
		// A round that nothing leads to, though each of its instructions leads to the next.
		{code(ends, inst{3, 0, 0, 0}, inst{12, 0, 0, 1}, inst{11, 0, 0, 1}), code(ends)},
		// What only such instructions lead to.
		{code(inst{11, 0, 0, 2}, inst{11, 0, 0, 3}, ends, ends), code(inst{11, 0, 0, 1}, ends)},
		// Reached from behind.
		{code(inst{11, 0, 0, 3}, inst{1, 0, 0, 9}, inst{0, 0, 0, 2}, inst{11, 0, 0, 2}), code(inst{11, 0, 0, 2}, inst{0, 0, 0, 2}, inst{11, 0, 0, 1})},
		// To itself, and to what lies ahead of all that is left out.
		{code(inst{3, 0, 1, 0}, inst{11, 0, 0, 3}, ends, inst{12, 0, 1, 3}, inst{13, 0, 1, 0}, inst{11, 0, 0, 6}, inst{11, 0, 0, 1}), code(inst{3, 0, 1, 0}, inst{11, 0, 0, 2}, inst{12, 0, 1, 2}, inst{13, 0, 1, 0}, inst{11, 0, 0, 5}, inst{11, 0, 0, 1})},
	} {
		wantTrim(t, c.text, c.want)
	}
}

// Only a K that says where to go on is turned.
func TestP8OtherK(t *testing.T) {
	for op := 1; op <= 10; op++ {
		for _, k := range []int{0, 1, 2, 3, 31, 65535} {
			if op == 8 && k > 31 {
				continue
			}
			wantTrim(t, code(inst{11, 0, 0, 2}, ends, inst{op, 6, 7, k}, inst{0, 8, 9, k}), code(inst{11, 0, 0, 1}, inst{op, 6, 7, k}, inst{0, 8, 9, k}))
		}
	}
}

// A K whose high byte changes, down to 255 and below.
func TestP8FarAway(t *testing.T) {
	for _, left := range []int{1, 2, 254, 255, 256, 257, 300, 600} {
		out := strings.Repeat(code(inst{1, 0, 0, 9}), left)
		wantTrim(t, code(inst{11, 0, 0, left + 1})+out+code(inst{14, 3, 4, left + 1}, ends), code(inst{11, 0, 0, 1}, inst{14, 3, 4, 1}, ends))
	}
	for _, kept := range []int{1, 250, 253, 254, 255, 256, 257, 300, 600} {
		ahead := strings.Repeat(code(inst{3, 0, 1, 0}), kept)
		wantTrim(t, ahead+code(inst{11, 0, 0, kept + 3}, ends, ends, inst{13, 1, 2, kept - 1}, ends), ahead+code(inst{11, 0, 0, kept + 1}, inst{13, 1, 2, kept - 1}, ends))
	}
}
