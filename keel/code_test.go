package keel_test

import (
	"testing"

	"keel/api"
	"keel/keel"
)

// The instructions to which nothing belongs.
const (
	stop  = "\x00"
	fail  = "\x01"
	pop   = "\x03"
	add   = "\x04"
	sub   = "\x05"
	mul   = "\x06"
	less  = "\x07"
	alike = "\x08"
	load  = "\x0b"
	store = "\x0c"
	data  = "\x0d"
	emit  = "\x0e"
	ret   = "\x13"
)

func push(v int) string    { return "\x02" + two(v) }
func dup(n byte) string    { return "\x09" + string([]byte{n}) }
func swap(n byte) string   { return "\x0a" + string([]byte{n}) }
func jump(d int) string    { return "\x0f" + two(d) }
func branch(d int) string  { return "\x10" + two(d) }
func call(s byte) string   { return "\x12" + string([]byte{s}) }
func goOver(s byte) string { return "\x14" + string([]byte{s}) }

func table(d ...int) string {
	code := "\x11" + string([]byte{byte(len(d) - 1)})
	for _, one := range d {
		code += two(one)
	}
	return code
}

func pushes(n int) string {
	code := ""
	for i := range n {
		code += push(i)
	}
	return code
}

// never is one section that does not return.
func never(most int, code string) api.Container {
	return container("", section(0, 128, most, code))
}

func wantCheck(t *testing.T, c api.Container, e api.Errno, s, place int) {
	t.Helper()
	if gotE, gotS, gotPlace := keel.Check(c); gotE != e || gotS != s || gotPlace != place {
		t.Errorf("P4: Check(%s) = %d, %d, %d, want %d, %d, %d", show(c), gotE, gotS, gotPlace, e, s, place)
	}
}

func wantGood(t *testing.T, c api.Container) {
	t.Helper()
	wantCheck(t, c, api.OK, 0, 0)
}
