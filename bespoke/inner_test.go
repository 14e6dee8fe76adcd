package bespoke

import (
	"testing"

	"bespoke/api"
)

// A table keeps just the bytes that its program needs, however many calls there are.
func TestTableDoesNotGrow(t *testing.T) {
	x, e := New("{u1,u4}", "b3", 2)
	room, f := Room("{u1,u4}", "b3", 2)
	if e != api.OK || f != api.OK {
		t.Fatalf("New: %d, Room: %d", e, f)
	}
	for range 100 {
		x.Put("{1,2}", "0a0b0c")
		x.Put("{1,3}", "0a0b0d")
		x.Put("{1,4}", "0a0b0e")
		x.Get("{1,2}")
		x.Len()
		x.Drop("{1,2}")
		x.Drop("{1,2}")
		x.Put("{1}", "0a0b0c")
		if len(x.bytes) != room {
			t.Fatalf("%d bytes are kept, want %d", len(x.bytes), room)
		}
		x.Clear()
	}
}

func TestCuts(t *testing.T) {
	for _, c := range []struct {
		place         int
		ahead, behind string
	}{
		{-1 << 63, "", ""}, {-1, "", ""}, {0, "", "abc"}, {1, "a", "bc"}, {3, "abc", ""}, {4, "", ""}, {1<<63 - 1, "", ""},
	} {
		if a, b := ahead("abc", c.place), behind("abc", c.place); a != c.ahead || b != c.behind {
			t.Errorf("%d: %q, %q", c.place, a, b)
		}
	}
	for _, n := range []int{-1 << 63, -1, 0} {
		if s := blank(n); s != "" {
			t.Errorf("blank(%d) = %q", n, s)
		}
	}
	if s := blank(3); s != "\x00\x00\x00" {
		t.Errorf("blank(3) = %q", s)
	}
}
