package machine

import "testing"

func TestWriterInstructions(t *testing.T) {
	var w Writer
	w.Here(3)
	w.Number(1, 513)
	w.Copy(2, 15)
	w.Add(3, 14)
	w.Subtract(4, 13)
	w.Multiply(5, 12)
	w.Load(6, 11, 258)
	w.Store(7, 10, 65535)
	w.GoSame(8, 9, 3)
	w.GoNotSame(9, 8, 4)
	w.Go(5)
	w.Here(4)
	w.End(7)
	w.Here(5)
	w.End(65535)
	want := "\x01\x01\x00\x01\x02" + "\x02\x02\x0f\x00\x00" + "\x03\x03\x0e\x00\x00" + "\x04\x04\x0d\x00\x00" + "\x05\x05\x0c\x00\x00" + "\x09\x06\x0b\x02\x01" + "\x0a\x07\x0a\xff\xff" + "\x0c\x08\x09\x00\x00" + "\x0d\x09\x08\x0a\x00" + "\x0b\x00\x00\x0b\x00" + "\x00\x00\x00\x07\x00" + "\x00\x00\x00\xff\xff"
	if text := w.Text(); text != want {
		t.Errorf("written: %q, want %q", text, want)
	}
	if _, ok := Parse(want); !ok {
		t.Error("what was written is no code")
	}
}

// A label tells its place to instructions ahead of it and behind it; what is asked again answers the same.
func TestWriterLabels(t *testing.T) {
	var w Writer
	for label := 0; label < MaxLabels; label++ {
		w.Go(MaxLabels - 1 - label)
	}
	for label := 0; label < MaxLabels; label++ {
		w.Here(label)
		w.Go(label)
	}
	for again := 0; again < 2; again++ {
		code, ok := Parse(w.Text())
		if !ok {
			t.Fatal("what was written is no code")
		}
		for label := 0; label < MaxLabels; label++ {
			place := MaxLabels + label
			if code.list[place].k != place || code.list[MaxLabels-1-label].k != place {
				t.Errorf("label %d tells %d and %d, want %d", label, code.list[place].k, code.list[MaxLabels-1-label].k, place)
			}
		}
	}
}

// A label that there is not, or that stands nowhere, tells instruction 0.
func TestWriterWrongLabels(t *testing.T) {
	for _, label := range []int{-1 << 63, -1, 0, MaxLabels, 1<<63 - 1} {
		var w Writer
		w.End(9)
		if label != 0 {
			w.Here(label)
		}
		w.Go(label)
		if text := w.Text(); text != "\x00\x00\x00\x09\x00\x0b\x00\x00\x00\x00" {
			t.Errorf("label %d: %q", label, text)
		}
	}
}
