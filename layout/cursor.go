package layout

// A cursor reads a text from its beginning to its end.
type cursor struct {
	text string
	at   int
}

func (c *cursor) ended() bool { return c.at >= len(c.text) }

// peek answers 0 at the end: no text of a type or a value holds this byte, so it fits nowhere.
func (c *cursor) peek() byte {
	if c.at >= len(c.text) {
		return 0
	}
	return c.text[c.at]
}

// skip steps behind the mark, if it is the next byte.
func (c *cursor) skip(mark byte) bool {
	if c.at >= len(c.text) || c.text[c.at] != mark {
		return false
	}
	c.at++
	return true
}

// number reads all digits that follow. It stops at the first one too many, so that a long text can neither overflow the number nor hold it up.
func (c *cursor) number(most int) (int, bool) {
	start := c.at
	n := 0
	for c.at < len(c.text) && isDigit(c.text[c.at]) {
		zeroAhead := n == 0 && c.at > start
		n = n*10 + int(c.text[c.at]-'0')
		if zeroAhead || n > most {
			return 0, false
		}
		c.at++
	}
	return n, c.at > start
}

// hexByte reads two hexadecimal digits, the high one first.
func (c *cursor) hexByte() (byte, bool) {
	high, ok := c.hexDigit()
	if !ok {
		return 0, false
	}
	low, ok := c.hexDigit()
	if !ok {
		return 0, false
	}
	return high*16 + low, true
}

func (c *cursor) hexDigit() (byte, bool) {
	digit := c.peek()
	if isDigit(digit) {
		c.at++
		return digit - '0', true
	}
	if digit >= 'a' && digit <= 'f' {
		c.at++
		return digit - 'a' + 10, true
	}
	return 0, false
}

func isDigit(b byte) bool { return b >= '0' && b <= '9' }
