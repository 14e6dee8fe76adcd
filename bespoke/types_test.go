package bespoke_test

import (
	"math"
	"regexp"
	"strconv"
	"strings"
	"testing"

	"bespoke/api"
	"bespoke/bespoke"
)

// Texts of which none is a type.
var noTypes = []string{
	"", " ", "\x00", "u", "b", "1", ",", "{", "}", "{}", "{,}", "u0", "u3", "u5", "u6", "u7", "u8", "u9", "u01", "u10", "u11", "u16", "u 1", "u1 ", " u1", "u1\n", "u1\x00", "U1", "uu1", "u-1", "u+1",
	"b0", "b00", "b01", "b016", "b17", "b20", "b99", "b100", "b160", "b4294967297", "b18446744073709551617", "B1", "b-1", "bb1", "b1b1", "u1u1", "bu1",
	"u1,u1", "u1,", ",u1", "u1}", "{u1", "{u1,", "{u1,}", "{,u1}", "{u1,,u1}", "{u1}}", "{{u1}", "{u1}{u1}", "{{u1}{u1}}", "{u1},{u1}", "{u1u1}", "{u1;u1}", "{u1, u1}", "{ u1}", "{u1 }", "{u1,{}}", "(u1)", "[u1]", "{u3}", "{u1,b17}", "{u1,x}", "{1}", "é", "\xff", "{\xff}",
	"{{{{{u1}}}}}", "{u1,{u1,{u1,{u1,{u1}}}}}", "{{{{u1,{u1}}}}}", "{{{{u1}},{{{u1}}}}}",
	"{u1,u1,u1,u1,u1,u1,u1,u1,u1}", "{u1,u1,u1,u1,u1,u1,u1,u1,", "{u1,u1,u1,u1,u1,u1,u1,u1,}", "{u1,{u1,u1,u1,u1,u1,u1,u1,u1,}}", "{{u1,u1,u1,u1,u1,u1,u1,u1,u1}}", "{u1,{u1,u1,u1,u1,u1,u1,u1,u1,u1}}",
	"{b16,b16,u1}", "{b16,b16,b1}", "{b16,b15,u2}", "{b15,u2,b15}", "{u4,b16,b13}", "{u1,b16,u4,b9}", "{{b16,b16},u1}", "{u1,{u4,b16,b9}}", "{u4,u4,u4,u4,u4,u4,u4,b5}",
	"{{{u1},u1,u1,u1,u1,u1,u1,u1},{u1,u1,u1,u1,u1,u1,u1,u1},{u1,u1,u1,u1,u1,u1,u1,u1}}",
}

// Texts so long that they must be refused without being read to their end, or without a call for each of their bytes.
func longTexts() []string {
	var texts []string
	for _, s := range []string{"{", "}", ",", "0", "1", "9", "f", "u1,", "{u1,", "b1", "\x00", "\xff", " "} {
		texts = append(texts, strings.Repeat(s, 3000000), "{"+strings.Repeat(s, 3000000), "u1"+strings.Repeat(s, 3000000), "{u1,"+strings.Repeat(s, 3000000)+"}")
	}
	return texts
}

func wantSize(t *testing.T, typ string, size int, step int) {
	t.Helper()
	if n, s, e := bespoke.Size(typ); n != size || s != step || e != api.OK {
		t.Errorf("P3: Size(%q) = %d, %d, %d, want %d, %d", typ, n, s, e, size, step)
	}
}

func wantNoType(t *testing.T, typ string) {
	t.Helper()
	if n, s, e := bespoke.Size(typ); n != 0 || s != 0 || e != api.ErrType {
		t.Errorf("P3: Size(%.60q) = %d, %d, %d, want ErrType", typ, n, s, e)
	}
}

func wantEncode(t *testing.T, typ string, value string, fill int, bytes string) {
	t.Helper()
	if s, e := bespoke.Encode(typ, value, fill); s != bytes || e != api.OK {
		t.Errorf("P4: Encode(%q, %q, %d) = %q, %d, want %q", typ, value, fill, s, e, bytes)
	}
}

func wantNoEncode(t *testing.T, typ string, value string, fill int, errno api.Errno) {
	t.Helper()
	if s, e := bespoke.Encode(typ, value, fill); s != "" || e != errno {
		t.Errorf("P4: Encode(%.60q, %.60q, %d) = %q, %d, want %d", typ, value, fill, s, e, errno)
	}
}

func wantDecode(t *testing.T, typ string, bytes string, value string) {
	t.Helper()
	if v, e := bespoke.Decode(typ, bytes); v != value || e != api.OK {
		t.Errorf("P5: Decode(%q, %q) = %q, %d, want %q", typ, bytes, v, e, value)
	}
}

func wantNoDecode(t *testing.T, typ string, bytes string, errno api.Errno) {
	t.Helper()
	if v, e := bespoke.Decode(typ, bytes); v != "" || e != errno {
		t.Errorf("P5: Decode(%.60q, %.60q) = %q, %d, want %d", typ, bytes, v, e, errno)
	}
}

func TestP3Leaves(t *testing.T) {
	for _, n := range []int{1, 2, 4} {
		wantSize(t, "u"+strconv.Itoa(n), n, n)
		wantSize(t, "{u"+strconv.Itoa(n)+"}", n, n)
	}
	for n := 1; n <= 16; n++ {
		wantSize(t, "b"+strconv.Itoa(n), n, 1)
		wantSize(t, "{b"+strconv.Itoa(n)+"}", n, 1)
	}
	for n := 17; n <= 1000; n++ {
		wantNoType(t, "u"+strconv.Itoa(n))
		wantNoType(t, "b"+strconv.Itoa(n))
	}
}

func TestP3Structs(t *testing.T) {
	for _, c := range []struct {
		typ        string
		size, step int
	}{
		{"{u1,u4}", 8, 4}, {"{u4,u1}", 8, 4}, {"{u1,u2}", 4, 2}, {"{u2,u1}", 4, 2}, {"{u1,u2,u1}", 6, 2}, {"{u1,u1,u2}", 4, 2}, {"{u1,u2,u4}", 8, 4}, {"{u4,u2,u1}", 8, 4}, {"{u2,u4,u1}", 12, 4}, {"{u1,u4,u2}", 12, 4}, {"{b3}", 3, 1}, {"{b3,u4}", 8, 4}, {"{b5,u4}", 12, 4}, {"{u1,b4}", 5, 1}, {"{u2,b3}", 6, 2},
		{"{u1,{u2,u1}}", 6, 2}, {"{{u2,u1},u1}", 6, 2}, {"{{u4,u1},u1}", 12, 4}, {"{u1,{u4,u1},u1}", 16, 4}, {"{u1,{b4}}", 5, 1}, {"{u1,{u1,{u1,{u4}}}}", 16, 4}, {"{{{{u4},u1},u1},u1}", 16, 4},
	} {
		wantSize(t, c.typ, c.size, c.step)
	}
}

func TestP3Limits(t *testing.T) {
	// MaxDepth, also beside one another.
	wantSize(t, "{{{{u1}}}}", 1, 1)
	wantSize(t, "{{{{u1}}},{{{u4}}}}", 8, 4)
	// MaxFields, in every struct.
	wantSize(t, "{u1,u1,u1,u1,u1,u1,u1,u1}", 8, 1)
	wantSize(t, "{{u1,u1,u1,u1,u1,u1,u1,u1},u1,u1,u1,u1,u1,u1,u1}", 15, 1)
	// MaxSize, with and without gaps.
	wantSize(t, "{b16,b16}", 32, 1)
	wantSize(t, "{b16,b15,u1}", 32, 1)
	wantSize(t, "{b16,b14,u2}", 32, 2)
	wantSize(t, "{b16,b13,u2}", 32, 2)
	wantSize(t, "{u4,b16,b9}", 32, 4)
	wantSize(t, "{u4,u4,u4,u4,u4,u4,u4,u4}", 32, 4)
	wantSize(t, "{u4,u4,u4,u4,u4,u4,u4,u1}", 32, 4)
	// MaxType: 80 bytes; the one with 81 is among the texts that are no types.
	longest := "{{{u1},{u1},u1,u1,u1,u1,u1,u1},{u1,u1,u1,u1,u1,u1,u1,u1},{u1,u1,u1,u1,u1,u1,u1}}"
	if len(longest) != api.MaxType {
		t.Fatalf("the longest type has %d bytes", len(longest))
	}
	wantSize(t, longest, 23, 1)
}

func TestP3NoTypes(t *testing.T) {
	if last := noTypes[len(noTypes)-1]; len(last) != api.MaxType+1 {
		t.Fatalf("the type with one byte too many has %d bytes", len(last))
	}
	for _, s := range noTypes {
		wantNoType(t, s)
	}
}

// isType finds types in another way than the program: it folds leaves, then structs, until nothing is left to fold. Only for texts too short for the limits but that of the depth.
func isType(text string) bool {
	s := leaf.ReplaceAllString(text, "T")
	if strings.ContainsAny(text, "T") {
		return false
	}
	for depth := 0; depth <= api.MaxDepth; depth++ {
		if s == "T" {
			return true
		}
		s = structure.ReplaceAllString(s, "T")
	}
	return false
}

var leaf = regexp.MustCompile(`u[124]|b1[0-6]|b[1-9]`)
var structure = regexp.MustCompile(`\{T(,T)*\}`)

// everyText calls see with every text that begins with start and goes on with up to so many bytes of the alphabet.
func everyText(start string, alphabet string, most int, see func(text string)) {
	see(start)
	if most == 0 {
		return
	}
	for i := range alphabet {
		everyText(start+alphabet[i:i+1], alphabet, most-1, see)
	}
}

func TestP3EveryShortText(t *testing.T) {
	types := 0
	see := func(text string) {
		if isType(text) {
			types++
			if _, _, e := bespoke.Size(text); e != api.OK {
				t.Errorf("P3: Size(%q): error %d", text, e)
			}
		} else {
			wantNoType(t, text)
		}
	}
	everyText("", "ub0147{},", 5, see)
	everyText("", "b1{},", 8, see)
	everyText("{u1,", "u1{},", 7, see)
	everyText("{{{{u1", "u1{},", 7, see)
	if types < 30 {
		t.Errorf("only %d types among the texts", types)
	}
}

func TestP4Numbers(t *testing.T) {
	for _, c := range []struct{ typ, value, bytes string }{
		{"u1", "0", "\x00"}, {"u1", "9", "\x09"}, {"u1", "10", "\x0a"}, {"u1", "255", "\xff"},
		{"u2", "0", "\x00\x00"}, {"u2", "256", "\x00\x01"}, {"u2", "258", "\x02\x01"}, {"u2", "65535", "\xff\xff"},
		{"u4", "0", "\x00\x00\x00\x00"}, {"u4", "65536", "\x00\x00\x01\x00"}, {"u4", "67305985", "\x01\x02\x03\x04"}, {"u4", "2147483648", "\x00\x00\x00\x80"}, {"u4", "4294967295", "\xff\xff\xff\xff"},
	} {
		wantEncode(t, c.typ, c.value, 9, c.bytes)
		wantDecode(t, c.typ, c.bytes, c.value)
	}
	for n := 0; n < 65536; n++ {
		wantEncode(t, "u2", strconv.Itoa(n), 9, string([]byte{byte(n % 256), byte(n / 256)}))
	}
}

func TestP4GapsAndPlaces(t *testing.T) {
	for _, c := range []struct {
		typ, value string
		fill       int
		bytes      string
	}{
		{"{u1,u4}", "{7,258}", 255, "\x07\xff\xff\xff\x02\x01\x00\x00"},
		{"{u1,u4}", "{7,258}", 0, "\x07\x00\x00\x00\x02\x01\x00\x00"},
		{"{u4,u1}", "{258,7}", 1, "\x02\x01\x00\x00\x07\x01\x01\x01"},
		{"{u1,u2,u1}", "{1,2,3}", 9, "\x01\x09\x02\x00\x03\x09"},
		{"{u1,{u2,u1}}", "{1,{2,3}}", 9, "\x01\x09\x02\x00\x03\x09"},
		{"{{u4,u1},u1}", "{{1,2},3}", 9, "\x01\x00\x00\x00\x02\x09\x09\x09\x03\x09\x09\x09"},
		{"{u1,{u1,{u1,{u4}}}}", "{1,{2,{3,{4}}}}", 9, "\x01\x09\x09\x09\x02\x09\x09\x09\x03\x09\x09\x09\x04\x00\x00\x00"},
		{"{b3,u2}", "{0a0bff,4}", 9, "\x0a\x0b\xff\x09\x04\x00"},
		{"{u1,b3}", "{1,020304}", 9, "\x01\x02\x03\x04"},
		{"b3", "0aff00", 9, "\x0a\xff\x00"},
		{"b16", "00112233445566778899aabbccddeeff", 9, "\x00\x11\x22\x33\x44\x55\x66\x77\x88\x99\xaa\xbb\xcc\xdd\xee\xff"},
		{"b1", "f0", 9, "\xf0"},
		{"{{{{u1}}}}", "{{{{5}}}}", 9, "\x05"},
	} {
		wantEncode(t, c.typ, c.value, c.fill, c.bytes)
		wantDecode(t, c.typ, c.bytes, c.value)
	}
	for fill := 0; fill <= 255; fill++ {
		wantEncode(t, "{u1,u2}", "{1,2}", fill, string([]byte{1, byte(fill), 2, 0}))
	}
}

func TestP4NoValues(t *testing.T) {
	for _, c := range []struct {
		typ    string
		values []string
	}{
		{"u1", []string{"", " ", "256", "260", "300", "999", "1000", "65536", "4294967296", "18446744073709551616", "18446744073709551617", "340282366920938463463374607431768211456", "00", "01", "07", "000", "0255", "-1", "-0", "+1", "1 ", " 1", "1\n", "1\x00", "0x1", "1e1", "1.0", "1_0", "a", "ff", "{1}", "1,", "1}", ",", "{", "}", "１"}},
		{"u2", []string{"", "65536", "70000", "99999", "100000", "065535", "00", "-1", "{1}"}},
		{"u4", []string{"", "4294967296", "4294967300", "5000000000", "9999999999", "10000000000", "18446744073709551616", "04294967295", "00", "-1", "{1}"}},
		{"b1", []string{"", "0", "000", "0000", "0A", "A0", "FF", "0g", "g0", "0x", "0 ", " 0", "0,", "0}", "{00}", "0\x00", "00,"}},
		{"b3", []string{"", "00", "0000", "00000", "0000000", "00000000", "00000G", "00 000", "00,00,00"}},
		{"b16", []string{strings.Repeat("0", 31), strings.Repeat("0", 33), strings.Repeat("0", 30), strings.Repeat("0", 34)}},
		{"{u1}", []string{"", "7", "{7", "7}", "{", "{}", "}", "{7,}", "{,7}", "{7,8}", "{{7}}", "{7}}", "{{7}", "{7} ", " {7}", "{ 7}", "{256}", "{07}", "(7)", "{7}{7}", "{7},{7}"}},
		{"{u1,u1}", []string{"{7}", "{7,}", "{,7}", "{7,8,9}", "{7,256}", "{256,7}", "{07,8}", "{7,08}", "{7;8}", "{7, 8}", "7,8", "{78}", "{{7},8}", "{7,{8}}", "{{7,8}}"}},
		{"{{u1,u1},u1}", []string{"{7,8,9}", "{{7,8,9}}", "{{7},{8,9}}", "{7,{8,9}}", "{{7,8},{9}}", "{{7,8}9}", "{{7,8},9", "{{7,8},9}}", "{{7,8,},9}"}},
		{"{b1,u1}", []string{"{0,7}", "{000,7}", "{00,}", "{00}", "{007}", "{0,07}", "{00,0a}"}},
	} {
		for _, v := range c.values {
			for _, fill := range []int{0, 255, 256, -1, math.MaxInt, math.MinInt} {
				wantNoEncode(t, c.typ, v, fill, api.ErrValue)
			}
		}
	}
}

// Of the numbers below 256 each has one text; of single bytes likewise.
func TestP4EveryShortValue(t *testing.T) {
	numbers := 0
	everyText("", "0123456789", 4, func(text string) {
		n, err := strconv.Atoi(text)
		if err == nil && n < 256 && strconv.Itoa(n) == text {
			numbers++
			wantEncode(t, "u1", text, 0, string([]byte{byte(n)}))
		} else {
			wantNoEncode(t, "u1", text, 0, api.ErrValue)
		}
	})
	bytes := 0
	for high := 0; high < 256; high++ {
		for low := 0; low < 256; low++ {
			text := string([]byte{byte(high), byte(low)})
			h := strings.IndexByte("0123456789abcdef", byte(high))
			l := strings.IndexByte("0123456789abcdef", byte(low))
			if h >= 0 && l >= 0 {
				bytes++
				wantEncode(t, "b1", text, 0, string([]byte{byte(h*16 + l)}))
			} else {
				wantNoEncode(t, "b1", text, 0, api.ErrValue)
			}
		}
	}
	if numbers != 256 || bytes != 256 {
		t.Errorf("%d numbers and %d bytes among the texts", numbers, bytes)
	}
}

func TestP4Fill(t *testing.T) {
	for _, fill := range []int{-1, -255, -256, 256, 257, 511, 512, 65536, math.MaxInt, math.MinInt} {
		for _, c := range []struct{ typ, value string }{{"u1", "7"}, {"b1", "0a"}, {"{u1}", "{7}"}, {"{u1,u4}", "{7,258}"}} {
			wantNoEncode(t, c.typ, c.value, fill, api.ErrArg)
		}
	}
}

func TestP4OrderOfErrors(t *testing.T) {
	for _, s := range noTypes {
		for _, value := range []string{"7", "{7}", "", s} {
			for _, fill := range []int{0, -1, 256} {
				wantNoEncode(t, s, value, fill, api.ErrType)
			}
		}
	}
	wantNoEncode(t, "u1", "256", 256, api.ErrValue)
	wantNoEncode(t, "u1", "255", 256, api.ErrArg)
}

func TestP5WhateverInTheGaps(t *testing.T) {
	wantDecode(t, "{u1,u4}", "\x07\x01\x02\x03\x02\x01\x00\x00", "{7,258}")
	for gap := 0; gap < 256; gap++ {
		g := string([]byte{byte(gap)})
		wantDecode(t, "{u1,u2,u1}", "\x01"+g+"\x02\x00\x03"+g, "{1,2,3}")
	}
}

func TestP5EveryByte(t *testing.T) {
	for n := 0; n < 256; n++ {
		b := string([]byte{byte(n)})
		wantDecode(t, "u1", b, strconv.Itoa(n))
		wantDecode(t, "b1", b, "0123456789abcdef"[n/16:n/16+1]+"0123456789abcdef"[n%16:n%16+1])
	}
}

func TestP5NumberOfBytes(t *testing.T) {
	for _, typ := range []string{"u1", "u2", "u4", "b1", "b16", "{u1}", "{u1,u4}", "{u4,u1}", "{b16,b16}"} {
		size, _, _ := bespoke.Size(typ)
		for n := 0; n < 100; n++ {
			bytes := strings.Repeat("\x00", n)
			if n != size {
				wantNoDecode(t, typ, bytes, api.ErrBytes)
			} else if v, e := bespoke.Decode(typ, bytes); v == "" || e != api.OK {
				t.Errorf("P5: Decode(%q, %d bytes) = %q, %d", typ, n, v, e)
			}
		}
	}
}

func TestP5OrderOfErrors(t *testing.T) {
	for _, s := range noTypes {
		for _, bytes := range []string{"", "\x00", "\x00\x00\x00\x00", strings.Repeat("x", 40)} {
			wantNoDecode(t, s, bytes, api.ErrType)
		}
	}
}

func TestP1LongTexts(t *testing.T) {
	for _, s := range longTexts() {
		wantNoType(t, s)
		wantNoEncode(t, s, s, -1, api.ErrType)
		wantNoDecode(t, s, s, api.ErrType)
		for _, typ := range []string{"u1", "u4", "b1", "b16", "{u1}", "{u1,u4}", "{{{{u1}}}}"} {
			wantNoEncode(t, typ, s, -1, api.ErrValue)
			wantNoDecode(t, typ, s, api.ErrBytes)
		}
	}
}

// A change of one byte of a value's text, one byte more or one less makes no value, or another value that comes back as it was written.
func TestP1SpoiltValues(t *testing.T) {
	for _, c := range []struct{ typ, value string }{
		{"u1", "255"}, {"u2", "65535"}, {"u4", "4294967295"}, {"b3", "09af00"}, {"{u1,{u4,b2},u2}", "{0,{10,00ff},99}"},
	} {
		for i := 0; i <= len(c.value); i++ {
			wantNoEncodeOrSame(t, c.typ, c.value[:i])
			for b := 0; b < 256; b++ {
				s := string([]byte{byte(b)})
				wantNoEncodeOrSame(t, c.typ, c.value[:i]+s+c.value[i:])
				if i < len(c.value) {
					wantNoEncodeOrSame(t, c.typ, c.value[:i]+s+c.value[i+1:])
				}
			}
			if i < len(c.value) {
				wantNoEncodeOrSame(t, c.typ, c.value[:i]+c.value[i+1:])
			}
		}
	}
}

func wantNoEncodeOrSame(t *testing.T, typ string, value string) {
	t.Helper()
	bytes, e := bespoke.Encode(typ, value, 9)
	if e == api.OK {
		wantDecode(t, typ, bytes, value)
	} else if bytes != "" || e != api.ErrValue {
		t.Errorf("P4: Encode(%q, %q, 9) = %q, %d", typ, value, bytes, e)
	}
}

func TestP2SameAgain(t *testing.T) {
	types := []string{"u1", "{u1,u4}", "no", "b3", "{{u4,u1},u1}", "", "{b16,b16,u1}"}
	values := []string{"7", "{7,258}", "0aff00", "{{1,2},3}", "x", ""}
	answers := func(typ string, value string) string {
		size, step, e1 := bespoke.Size(typ)
		bytes, e2 := bespoke.Encode(typ, value, 200)
		back, e3 := bespoke.Decode(typ, bytes)
		return strings.Join([]string{strconv.Itoa(size), strconv.Itoa(step), strconv.Itoa(int(e1)), bytes, strconv.Itoa(int(e2)), back, strconv.Itoa(int(e3))}, "|")
	}
	var first []string
	for _, typ := range types {
		for _, value := range values {
			first = append(first, answers(typ, value))
		}
	}
	// The other way round, so that other calls have gone ahead.
	for i := len(types) - 1; i >= 0; i-- {
		for j := len(values) - 1; j >= 0; j-- {
			if again := answers(types[i], values[j]); again != first[i*len(values)+j] {
				t.Errorf("P2: %q, %q: %q, then %q", types[i], values[j], first[i*len(values)+j], again)
			}
		}
	}
}
