package layout

import "strconv"

// Lay answers the bytes as which a value lies, with fill in all gaps; false, if the text is no value of the type.
func (s Shape) Lay(value string, fill byte) (string, bool) {
	w := writer{in: cursor{text: value}}
	for i := 0; i < s.size; i++ {
		w.bytes = append(w.bytes, fill)
	}
	for _, p := range s.parts {
		if !w.lay(p) {
			return "", false
		}
	}
	if !w.in.ended() {
		return "", false
	}
	return string(w.bytes), true
}

// A writer lays the parts of a value, as it reads them, into bytes.
type writer struct {
	in    cursor
	bytes []byte
}

func (w *writer) lay(p part) bool {
	switch p.kind {
	case numberPart:
		return w.layNumber(p)
	case bytesPart:
		return w.layBytes(p)
	}
	return w.in.skip(p.mark)
}

func (w *writer) layNumber(p part) bool {
	n, ok := w.in.number(greatest(p.size))
	if !ok {
		return false
	}
	for i := p.place; i < p.place+p.size; i++ {
		w.bytes[i] = byte(n & 255)
		n >>= 8
	}
	return true
}

func (w *writer) layBytes(p part) bool {
	for i := p.place; i < p.place+p.size; i++ {
		b, ok := w.in.hexByte()
		if !ok {
			return false
		}
		w.bytes[i] = b
	}
	return true
}

// greatest answers the greatest number of so many bytes.
func greatest(size int) int {
	n := 0
	for i := 0; i < size; i++ {
		n = n*256 + 255
	}
	return n
}

// Tell answers the value that lies in the bytes; false, if there are not as many as the type's size.
func (s Shape) Tell(bytes string) (string, bool) {
	if len(bytes) != s.size {
		return "", false
	}
	text := ""
	for _, p := range s.parts {
		switch p.kind {
		case numberPart:
			text += numberText(bytes[p.place : p.place+p.size])
		case bytesPart:
			text += hexText(bytes[p.place : p.place+p.size])
		default:
			text += string([]byte{p.mark})
		}
	}
	return text, true
}

func numberText(lying string) string {
	n := 0
	for i := len(lying) - 1; i >= 0; i-- {
		n = n*256 + int(lying[i])
	}
	return strconv.Itoa(n)
}

func hexText(lying string) string {
	var text []byte
	for i := 0; i < len(lying); i++ {
		text = append(text, hexMark(lying[i]>>4))
		text = append(text, hexMark(lying[i]&15))
	}
	return string(text)
}

func hexMark(n byte) byte {
	if n < 10 {
		return '0' + n
	}
	return 'a' + n - 10
}
