package bespoke_test

import (
	"encoding/hex"
	"math/rand"
	"strconv"
	"strings"
	"testing"

	"bespoke/api"
	"bespoke/bespoke"
)

// A node is a type as a tree, laid out here by the document's words and not by the program's means.
type node struct {
	fields []*node // of a struct
	number bool
	bytes  int
}

func randomNode(r *rand.Rand, depth int) *node {
	if depth < api.MaxDepth+1 && r.Intn(3) == 0 {
		n := &node{}
		for i := 1 + r.Intn(api.MaxFields+1); i > 0; i-- {
			n.fields = append(n.fields, randomNode(r, depth+1))
		}
		return n
	}
	if r.Intn(2) == 0 {
		return &node{number: true, bytes: 1 << r.Intn(3)}
	}
	return &node{bytes: 1 + r.Intn(5)}
}

func (n *node) text() string {
	if n.number {
		return "u" + strconv.Itoa(n.bytes)
	}
	if n.fields == nil {
		return "b" + strconv.Itoa(n.bytes)
	}
	var texts []string
	for _, f := range n.fields {
		texts = append(texts, f.text())
	}
	return "{" + strings.Join(texts, ",") + "}"
}

func (n *node) depth() int {
	deepest := 0
	for _, f := range n.fields {
		deepest = max(deepest, f.depth())
	}
	if n.fields == nil {
		return 0
	}
	return deepest + 1
}

func (n *node) mostFields() int {
	most := len(n.fields)
	for _, f := range n.fields {
		most = max(most, f.mostFields())
	}
	return most
}

func (n *node) step() int {
	if n.number {
		return n.bytes
	}
	step := 1
	for _, f := range n.fields {
		step = max(step, f.step())
	}
	return step
}

func (n *node) size() int {
	if n.fields == nil {
		return n.bytes
	}
	places := n.places()
	last := len(places) - 1
	size := places[last] + n.fields[last].size()
	for size%n.step() != 0 {
		size++
	}
	return size
}

func (n *node) places() []int {
	var places []int
	end := 0
	for _, f := range n.fields {
		for end%f.step() != 0 {
			end++
		}
		places = append(places, end)
		end += f.size()
	}
	return places
}

func (n *node) isType() bool {
	return len(n.text()) <= api.MaxType && n.depth() <= api.MaxDepth && n.mostFields() <= api.MaxFields && n.size() <= api.MaxSize
}

// lay lays a random value into memory from the place on, and answers its text.
func (n *node) lay(r *rand.Rand, memory []byte, place int) string {
	if n.fields == nil {
		lying := memory[place : place+n.bytes]
		number := 0
		for i := range lying {
			lying[i] = []byte{0, 255, byte(r.Intn(256))}[r.Intn(3)]
			number |= int(lying[i]) << (8 * i)
		}
		if n.number {
			return strconv.Itoa(number)
		}
		return hex.EncodeToString(lying)
	}
	var texts []string
	for i, p := range n.places() {
		texts = append(texts, n.fields[i].lay(r, memory, place+p))
	}
	return "{" + strings.Join(texts, ",") + "}"
}

// markLeaves sets the bytes in which a field lies.
func (n *node) markLeaves(marks []bool, place int) {
	if n.fields == nil {
		for i := 0; i < n.bytes; i++ {
			marks[place+i] = true
		}
	}
	for i, p := range n.places() {
		n.fields[i].markLeaves(marks, place+p)
	}
}

func TestTypesAgainstModel(t *testing.T) {
	r := rand.New(rand.NewSource(1))
	types, others, gaps := 0, 0, 0
	for i := 0; i < 60000; i++ {
		n := randomNode(r, 0)
		if !n.isType() {
			others++
			wantNoType(t, n.text())
			wantNoEncode(t, n.text(), "7", 256, api.ErrType)
			wantNoDecode(t, n.text(), "", api.ErrType)
			continue
		}
		types++
		wantSize(t, n.text(), n.size(), n.step())
		gaps += checkValue(t, r, n)
	}
	if types < 1000 || others < 1000 || gaps < 1000 {
		t.Errorf("too few cases: %d types, %d others, %d gaps", types, others, gaps)
	}
}

// checkValue encodes and decodes a random value, and answers how many gaps the type has.
func checkValue(t *testing.T, r *rand.Rand, n *node) int {
	t.Helper()
	fill := r.Intn(256)
	memory := []byte(strings.Repeat(string([]byte{byte(fill)}), n.size()))
	value := n.lay(r, memory, 0)
	wantEncode(t, n.text(), value, fill, string(memory))
	wantNoEncode(t, n.text(), value+",", fill, api.ErrValue)
	wantNoEncode(t, n.text(), value, 256+fill, api.ErrArg)
	wantDecode(t, n.text(), string(memory), value)
	wantNoDecode(t, n.text(), string(memory[1:]), api.ErrBytes)
	marks := make([]bool, n.size())
	n.markLeaves(marks, 0)
	gaps := 0
	for i, mark := range marks {
		if !mark {
			gaps++
			memory[i] = byte(r.Intn(256))
		}
	}
	wantDecode(t, n.text(), string(memory), value)
	if bytes, e := bespoke.Encode(n.text(), value, 255-fill); e != api.OK || len(bytes) != n.size() {
		t.Errorf("P4: Encode(%q, %q, %d) = %q, %d", n.text(), value, 255-fill, bytes, e)
	}
	return gaps
}
