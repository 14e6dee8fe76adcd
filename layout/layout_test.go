package layout

import (
	"slices"
	"strings"
	"testing"
)

func TestNumber(t *testing.T) {
	for _, c := range []struct {
		text string
		most int
		n    int
		at   int
		ok   bool
	}{
		{"0", 9, 0, 1, true}, {"7", 9, 7, 1, true}, {"16", 16, 16, 2, true}, {"0,1", 9, 0, 1, true}, {"12}", 99, 12, 2, true},
		{"4294967295", 4294967295, 4294967295, 10, true},
		{"", 9, 0, 0, false}, {"x", 9, 0, 0, false}, {"-1", 9, 0, 0, false}, {"+1", 9, 0, 0, false}, {"17", 16, 0, 0, false}, {"00", 9, 0, 0, false}, {"01", 9, 0, 0, false},
		{"4294967296", 4294967295, 0, 0, false}, {strings.Repeat("9", 1000), 4294967295, 0, 0, false}, {strings.Repeat("0", 1000), 4294967295, 0, 0, false},
	} {
		in := cursor{text: c.text}
		n, ok := in.number(c.most)
		if ok != c.ok || ok && (n != c.n || in.at != c.at) {
			t.Errorf("number of %.20q up to %d: %d, %v, at %d", c.text, c.most, n, ok, in.at)
		}
	}
}

func TestHexByte(t *testing.T) {
	for _, c := range []struct {
		text string
		b    byte
		ok   bool
	}{
		{"00", 0, true}, {"0a", 10, true}, {"a0", 160, true}, {"ff", 255, true}, {"9f", 159, true}, {"000", 0, true},
		{"", 0, false}, {"0", 0, false}, {"0A", 0, false}, {"A0", 0, false}, {"0g", 0, false}, {"`0", 0, false}, {"0/", 0, false}, {":0", 0, false}, {"0,", 0, false}, {"0\x00", 0, false},
	} {
		in := cursor{text: c.text}
		b, ok := in.hexByte()
		if b != c.b || ok != c.ok || ok && in.at != 2 {
			t.Errorf("hexByte of %q: %d, %v, at %d", c.text, b, ok, in.at)
		}
	}
}

func TestRoundUp(t *testing.T) {
	for _, c := range []struct{ place, step, want int }{
		{0, 1, 0}, {0, 4, 0}, {1, 1, 1}, {1, 2, 2}, {2, 2, 2}, {1, 4, 4}, {4, 4, 4}, {5, 4, 8}, {7, 4, 8}, {5, 0, 5},
	} {
		if got := roundUp(c.place, c.step); got != c.want {
			t.Errorf("roundUp(%d, %d) = %d, want %d", c.place, c.step, got, c.want)
		}
	}
}

// The places of the leaves count from the beginning of the whole type, however deep they stand.
func TestPlaces(t *testing.T) {
	for _, c := range []struct {
		typ    string
		places []int
	}{
		{"u4", []int{0}}, {"{u1,u4}", []int{0, 4}}, {"{u1,u2,u1}", []int{0, 2, 4}}, {"{u1,{u1,u4}}", []int{0, 4, 8}}, {"{b3,{u2,u1},b3}", []int{0, 4, 6, 8}}, {"{u1,{u1,{u1,{u4,u1}}},u1}", []int{0, 4, 8, 12, 16, 20}},
	} {
		shape, ok := Parse(c.typ)
		if !ok {
			t.Errorf("Parse(%q) is false", c.typ)
			continue
		}
		var places []int
		for _, p := range shape.parts {
			if p.kind != markPart {
				places = append(places, p.place)
			}
		}
		if len(places) != len(c.places) {
			t.Errorf("%q: leaves at %v, want %v", c.typ, places, c.places)
			continue
		}
		for i, place := range places {
			if place != c.places[i] {
				t.Errorf("%q: leaves at %v, want %v", c.typ, places, c.places)
				break
			}
		}
	}
}

func TestCovered(t *testing.T) {
	for _, c := range []struct {
		typ    string
		places []int
	}{
		{"u1", []int{0}}, {"u4", []int{0, 1, 2, 3}}, {"b3", []int{0, 1, 2}}, {"{u1}", []int{0}}, {"{u1,u4}", []int{0, 4, 5, 6, 7}}, {"{u4,u1}", []int{0, 1, 2, 3, 4}}, {"{u1,u2,u1}", []int{0, 2, 3, 4}}, {"{u1,{u2,u1},b2}", []int{0, 2, 3, 4, 6, 7}}, {"{{{{u1,u2}}},u4,u1}", []int{0, 2, 3, 4, 5, 6, 7, 8}},
	} {
		shape, _ := Parse(c.typ)
		if places := shape.Covered(); !slices.Equal(places, c.places) {
			t.Errorf("%q: covered %v, want %v", c.typ, places, c.places)
		}
	}
}

func TestRefusals(t *testing.T) {
	if shape, ok := Parse("{u1"); ok || shape.Size() != 0 || shape.Step() != 0 || len(shape.parts) != 0 {
		t.Errorf("Parse of no type: %v, %v", shape, ok)
	}
	shape, _ := Parse("{u1,b2}")
	if bytes, ok := shape.Lay("{1,000}", 0); ok || bytes != "" {
		t.Errorf("Lay of no value: %q, %v", bytes, ok)
	}
	if value, ok := shape.Tell("\x00\x00"); ok || value != "" {
		t.Errorf("Tell of too few bytes: %q, %v", value, ok)
	}
}
