package keel_test

import (
	"strings"
	"testing"

	"keel/api"
	"keel/keel"
)

func TestParseWhole(t *testing.T) {
	wantParse(t, example, exampleContainer())
	wantParse(t, pair, pairContainer())
	wantParse(t, "K\x01\x01\x00\x00\x00\x00\x01\x00\x00\x00", container("", section(0, 0, 0, "\x00")))
	wantParse(t, "K\x01\x01\x09\x09\x28\x00\x78\x00\x3c"+fill(120)+strings.Repeat("K", 60), container(strings.Repeat("K", 60), section(9, 9, 40, fill(120))))
	head := strings.Repeat("\x09\x80\x28\x00\x78", 6)
	var all []api.Section
	var codes string
	for i := range 6 {
		code := strings.Repeat(string(rune('a'+i)), 120)
		all = append(all, section(9, 128, 40, code))
		codes += code
	}
	wantParse(t, "K\x01\x06"+head+"\x00\x3c"+codes+fill(60), container(fill(60), all...))
}

// Code is not looked at: bytes that are no instruction are read too.
func TestParseAnyCode(t *testing.T) {
	for v := range 256 {
		b := string([]byte{byte(v)})
		wantParse(t, "K\x01\x01\x00\x00\x00\x00\x01\x00\x01"+b+b, container(b, section(0, 0, 0, b)))
	}
}

func TestParseMagic(t *testing.T) {
	for v := range 256 {
		b := byte(v)
		if b != 75 {
			wantParseError(t, string([]byte{b}), api.ErrMagic)
			wantParseError(t, string([]byte{b, 1}), api.ErrMagic)
			wantParseError(t, put(pair, 0, b), api.ErrMagic)
		}
		if b != 1 {
			wantParseError(t, string([]byte{75, b}), api.ErrMagic)
			wantParseError(t, put(pair, 1, b), api.ErrMagic)
		}
	}
	wantParseError(t, "\x01K", api.ErrMagic)
	wantParseError(t, "L\x02", api.ErrMagic)
	wantParseError(t, strings.Repeat("K", 1<<20), api.ErrMagic)
}

// Each number of one byte in a section, in both sections of pair, with all values that a byte has.
func TestParseSectionNumbers(t *testing.T) {
	for _, x := range []struct {
		at   int
		good func(v int) bool
		set  func(c api.Container, v int)
	}{
		{3, func(v int) bool { return v <= 9 }, func(c api.Container, v int) { c.Sections[0].Inputs = v }},
		{4, func(v int) bool { return v <= 9 || v == 128 }, func(c api.Container, v int) { c.Sections[0].Outputs = v }},
		{5, func(v int) bool { return v <= 40 }, func(c api.Container, v int) { c.Sections[0].Max = v }},
		{8, func(v int) bool { return v <= 9 }, func(c api.Container, v int) { c.Sections[1].Inputs = v }},
		{9, func(v int) bool { return v <= 9 || v == 128 }, func(c api.Container, v int) { c.Sections[1].Outputs = v }},
		{10, func(v int) bool { return v <= 40 }, func(c api.Container, v int) { c.Sections[1].Max = v }},
	} {
		for v := range 256 {
			b := put(pair, x.at, byte(v))
			if !x.good(v) {
				wantParseError(t, b, api.ErrLimit)
				wantParseError(t, b[:x.at+1], api.ErrLimit)
				continue
			}
			c := pairContainer()
			x.set(c, v)
			wantParse(t, b, c)
			wantParseError(t, b[:x.at+1], api.ErrShort)
		}
	}
}

// As many sections as the number says are there, so that the limit alone decides.
func TestParseSectionCount(t *testing.T) {
	for n := range 256 {
		b := "K\x01" + string([]byte{byte(n)}) + strings.Repeat("\x01\x02\x03\x00\x01", n) + "\x00\x00" + fill(n)
		if n < 1 || n > 6 {
			wantParseError(t, b, api.ErrLimit)
			wantParseError(t, b[:3], api.ErrLimit)
			continue
		}
		var want api.Container
		for range n {
			want.Sections = append(want.Sections, section(1, 2, 3, "\xfe"))
		}
		wantParse(t, b, want)
		wantParseError(t, b[:3], api.ErrShort)
	}
}

func TestParseLengths(t *testing.T) {
	for n := range 65536 {
		text := ""
		if n < 700 {
			text = fill(n)
		}
		code := "K\x01\x01\x00\x80\x02" + two(n)
		data := "K\x01\x01\x00\x80\x02\x00\x01" + two(n)
		if n < 1 || n > 120 {
			wantParseError(t, code+"\x00\x01"+text+"d", api.ErrLimit)
			wantParseError(t, code, api.ErrLimit)
		} else {
			wantParse(t, code+"\x00\x01"+text+"d", container("d", section(0, 128, 2, text)))
			wantParseError(t, code, api.ErrShort)
		}
		if n > 60 {
			wantParseError(t, data+"c"+text, api.ErrLimit)
			wantParseError(t, data, api.ErrLimit)
		} else {
			wantParse(t, data+"c"+text, container(text, section(0, 128, 2, "c")))
			wantParseError(t, data, api.ErrShort)
		}
	}
}

func TestParseShortAndMore(t *testing.T) {
	long := "K\x01\x01\x09\x09\x28\x00\x78\x00\x3c" + fill(180)
	for _, b := range []string{example, pair, long} {
		for i := range len(b) {
			wantParseError(t, b[:i], api.ErrShort)
		}
		for v := range 256 {
			wantParseError(t, b+string([]byte{byte(v)}), api.ErrMore)
		}
		wantParseError(t, b+b, api.ErrMore)
		wantParseError(t, b+fill(1<<20), api.ErrMore)
	}
}

func TestParseWhichError(t *testing.T) {
	for _, x := range []struct {
		why  string
		b    string
		want api.Errno
	}{
		{"magic ahead of short", "L", api.ErrMagic},
		{"magic ahead of limit", "L\x01\x07", api.ErrMagic},
		{"second byte ahead of limit", "K\x02\x00", api.ErrMagic},
		{"magic ahead of more", "L" + pair[1:] + "z", api.ErrMagic},
		{"limit ahead of short", "K\x01\x02\x0a", api.ErrLimit},
		{"limit ahead of short codes", put(pair, 9, 10)[:16], api.ErrLimit},
		{"limit ahead of more", put(pair, 9, 10) + "z", api.ErrLimit},
		{"limit of the count ahead of more", put(pair, 2, 7) + "z", api.ErrLimit},
		{"limit of the data's length ahead of short codes", put(pair, 13, 0, 61)[:15], api.ErrLimit},
		{"limit of the code's length ahead of short data", put(pair, 11, 0, 121)[:13], api.ErrLimit},
		{"half a code's length, out of its limits already", "K\x01\x01\x00\x80\x02\x01", api.ErrShort},
		{"half a code's length behind a bad number", "K\x01\x01\x00\x80\x29\x01", api.ErrLimit},
		{"half a data's length, out of its limits already", pair[:13] + "\xff", api.ErrShort},
		{"half a data's length behind a bad number", put(pair, 11, 0, 0)[:13] + "\xff", api.ErrLimit},
		{"codes as long as codes and data ought to be together", put(pair, 13, 0, 9), api.ErrShort},
		{"a code that is a byte too long for what follows", put(pair, 11, 0, 4), api.ErrShort},
		{"a code that is a byte too short for what follows", put(pair, 11, 0, 2), api.ErrMore},
		{"data where there is to be none", put(pair, 13, 0, 0), api.ErrMore},
	} {
		t.Run(x.why, func(t *testing.T) { wantParseError(t, x.b, x.want) })
	}
}

// Whatever is read is written as the same bytes; whatever is not read has one of the four errors.
func TestParseThenBytes(t *testing.T) {
	r := chance()
	read := 0
	for range 20000 {
		b, e := keel.Bytes(chanceContainer(r))
		if e != api.OK {
			t.Fatalf("Bytes of a container within its limits: %d", e)
		}
		if at := r.Intn(3 * len(b)); at < len(b) {
			b = put(b, at, byte(r.Intn(256)))
		}
		c, e := keel.Parse(b)
		switch e {
		case api.OK:
			read++
			wantBytes(t, c, b)
		case api.ErrMagic, api.ErrLimit, api.ErrShort, api.ErrMore:
			wantParseError(t, b, e)
		default:
			t.Errorf("Parse(%q) = %d", b, e)
		}
	}
	if read < 10000 {
		t.Errorf("only %d were read", read)
	}
}
