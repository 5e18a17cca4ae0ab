package keel_test

import (
	"fmt"
	"math/rand"
	"slices"
	"strings"
	"testing"

	"keel/api"
	"keel/keel"
)

// example is example 1 of the document.
const example = "\x4b\x01\x01\x00\x80\x02\x00\x09\x00\x00\x02\x00\x02\x02\x00\x03\x04\x0e\x00"

// pair is two sections whose codes and data differ in each byte; the numbers stand at the places named below.
const pair = "\x4b\x01\x02" + "\x00\x80\x03\x00\x02" + "\x04\x05\x06\x00\x03" + "\x00\x04" + "ab" + "cde" + "fghi"

func section(inputs, outputs, most int, code string) api.Section {
	return api.Section{Inputs: inputs, Outputs: outputs, Max: most, Code: code}
}

func container(data string, sections ...api.Section) api.Container {
	return api.Container{Sections: sections, Data: data}
}

func exampleContainer() api.Container {
	return container("", section(0, 128, 2, "\x02\x00\x02\x02\x00\x03\x04\x0e\x00"))
}

func pairContainer() api.Container {
	return container("fghi", section(0, 128, 3, "ab"), section(4, 5, 6, "cde"))
}

func same(a, b api.Container) bool {
	return slices.Equal(a.Sections, b.Sections) && a.Data == b.Data
}

// show tells a container in plain letters, a long one cut, for a code is any bytes.
func show(c api.Container) string {
	var b strings.Builder
	for _, s := range c.Sections[:min(len(c.Sections), 7)] {
		fmt.Fprintf(&b, "[%d %d %d %.80q] ", s.Inputs, s.Outputs, s.Max, s.Code)
	}
	return fmt.Sprintf("%d sections %sand %.80q", len(c.Sections), b.String(), c.Data)
}

func empty(c api.Container) bool { return len(c.Sections) == 0 && c.Data == "" }

// put gives the bytes with others at a place.
func put(b string, at int, others ...byte) string {
	return b[:at] + string(others) + b[at+len(others):]
}

func two(n int) string { return string([]byte{byte(n >> 8), byte(n)}) }

func fill(n int) string { return strings.Repeat("\xfe", n) }

func wantParse(t *testing.T, b string, want api.Container) {
	t.Helper()
	if c, e := keel.Parse(b); e != api.OK || !same(c, want) {
		t.Errorf("Parse(%.80q) = %s, %d, want %s", b, show(c), e, show(want))
	}
}

func wantParseError(t *testing.T, b string, want api.Errno) {
	t.Helper()
	if c, e := keel.Parse(b); e != want || !empty(c) {
		t.Errorf("Parse(%.80q) = %s, %d, want %d and nothing else", b, show(c), e, want)
	}
}

func wantBytes(t *testing.T, c api.Container, want string) {
	t.Helper()
	if b, e := keel.Bytes(c); e != api.OK || b != want {
		t.Errorf("Bytes(%s) = %q, %d, want %q", show(c), b, e, want)
	}
}

func wantBytesLimit(t *testing.T, name string, c api.Container) {
	t.Helper()
	if b, e := keel.Bytes(c); e != api.ErrLimit || b != "" {
		t.Errorf("Bytes, %s: %.80q, %d, want ErrLimit and nothing else", name, b, e)
	}
}

// chance gives the same numbers each time, so that a failure can be seen again.
func chance() *rand.Rand { return rand.New(rand.NewSource(1)) }

func chanceText(r *rand.Rand, n int) string {
	b := make([]byte, n)
	for i := range b {
		b[i] = byte(r.Intn(256))
	}
	return string(b)
}

// chanceContainer gives a container within its limits.
func chanceContainer(r *rand.Rand) api.Container {
	c := api.Container{Data: chanceText(r, r.Intn(61))}
	for range 1 + r.Intn(6) {
		outputs := r.Intn(11)
		if outputs == 10 {
			outputs = 128
		}
		c.Sections = append(c.Sections, section(r.Intn(10), outputs, r.Intn(41), chanceText(r, 1+r.Intn(120))))
	}
	return c
}
