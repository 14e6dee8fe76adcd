package machine

import (
	"testing"

	"bespoke/api"
)

// round has what all instructions have: it goes round, ends, and holds one that is not reached.
const round = "\x0b\x01\x02\x02\x00" + "\x08\x0f\x0e\x1f\x00" + "\x0c\x03\x04\x04\x00" + "\x01\x0f\x00\xff\xff" + "\x00\x00\x00\x01\x02"

func TestTextIsWhatWasRead(t *testing.T) {
	c, ok := Parse(round)
	if !ok || c.Text() != round {
		t.Errorf("Parse(%q): %q, %v", round, c.Text(), ok)
	}
	if c, ok := Parse(round[1:]); ok || c.Text() != "" {
		t.Errorf("Parse of no code: %q, %v", c.Text(), ok)
	}
}

// Neither trimming nor running changes the code that was read.
func TestCodeStays(t *testing.T) {
	c, _ := Parse(round)
	trimmed := c.Trim()
	if trimmed.Text() == round || c.Text() != round {
		t.Errorf("trimmed: %q, what was read: %q", trimmed.Text(), c.Text())
	}
	for n := 0; n < 2; n++ {
		o, e := c.Run("m", Start{A: 5, Fuel: 3})
		if o != (api.Outcome{Memory: "m", Result: 5, Status: 513, Steps: 3}) || e != api.OK || c.Text() != round {
			t.Errorf("run %d: %+v, %d, what was read: %q", n, o, e, c.Text())
		}
	}
}

func TestStartAllowed(t *testing.T) {
	for _, s := range []Start{{}, {A: api.MaxWord}, {B: api.MaxWord}, {C: api.MaxWord}, {Fuel: api.MaxFuel}} {
		if !s.Allowed() {
			t.Errorf("%+v is not allowed", s)
		}
	}
	for _, s := range []Start{{A: -1}, {B: -1}, {C: -1}, {Fuel: -1}, {A: api.MaxWord + 1}, {B: api.MaxWord + 1}, {C: api.MaxWord + 1}, {Fuel: api.MaxFuel + 1}} {
		if s.Allowed() {
			t.Errorf("%+v is allowed", s)
		}
	}
}
