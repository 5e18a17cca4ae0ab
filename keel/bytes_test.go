package keel_test

import (
	"math"
	"strconv"
	"strings"
	"testing"

	"keel/api"
	"keel/keel"
)

func TestBytesWhole(t *testing.T) {
	wantBytes(t, exampleContainer(), example)
	wantBytes(t, pairContainer(), pair)
	wantBytes(t, container("", section(0, 0, 0, "\x00")), "K\x01\x01\x00\x00\x00\x00\x01\x00\x00\x00")
	wantBytes(t, container(fill(60), section(9, 9, 40, fill(120))), "K\x01\x01\x09\x09\x28\x00\x78\x00\x3c"+fill(180))
	six := make([]api.Section, 6)
	for i := range six {
		six[i] = section(9, 128, 40, fill(120))
	}
	wantBytes(t, container(fill(60), six...), "K\x01\x06"+strings.Repeat("\x09\x80\x28\x00\x78", 6)+"\x00\x3c"+fill(780))
}

// Each number of each section at every value around its limits, and at such that would look good if cut to a byte or two.
func TestBytesSectionNumbers(t *testing.T) {
	wild := []int{math.MinInt, math.MinInt + 1, math.MinInt32, -65536, -256, -255, -128, -127, -2, -1, 256, 257, 384, 65536, 65537, 65664, 1 << 32, 1<<32 + 1, 1 << 62, math.MaxInt - 1, math.MaxInt}
	for v := range 256 {
		wild = append(wild, v)
	}
	for _, x := range []struct {
		name string
		at   int
		good func(v int) bool
		set  func(s *api.Section, v int)
	}{
		{"Inputs", 0, func(v int) bool { return 0 <= v && v <= 9 }, func(s *api.Section, v int) { s.Inputs = v }},
		{"Outputs", 1, func(v int) bool { return 0 <= v && v <= 9 || v == 128 }, func(s *api.Section, v int) { s.Outputs = v }},
		{"Max", 2, func(v int) bool { return 0 <= v && v <= 40 }, func(s *api.Section, v int) { s.Max = v }},
	} {
		for i := range 2 {
			for _, v := range wild {
				c := pairContainer()
				x.set(&c.Sections[i], v)
				if x.good(v) {
					wantBytes(t, c, put(pair, 3+5*i+x.at, byte(v)))
				} else {
					wantBytesLimit(t, x.name+" "+strconv.Itoa(v)+" of section "+strconv.Itoa(i), c)
				}
			}
		}
	}
}

func TestBytesLengths(t *testing.T) {
	for _, n := range []int{0, 1, 2, 59, 60, 61, 119, 120, 121, 255, 256, 257, 376, 65535, 65536, 65537, 65596, 65656, 1 << 22} {
		code := container("d", section(0, 128, 2, "c"), section(1, 2, 3, fill(n)))
		if 1 <= n && n <= 120 {
			wantBytes(t, code, "K\x01\x02\x00\x80\x02\x00\x01\x01\x02\x03"+two(n)+"\x00\x01c"+fill(n)+"d")
		} else {
			wantBytesLimit(t, strconv.Itoa(n)+" bytes of code", code)
		}
		data := container(fill(n), section(0, 128, 2, "c"))
		if n <= 60 {
			wantBytes(t, data, "K\x01\x01\x00\x80\x02\x00\x01"+two(n)+"c"+fill(n))
		} else {
			wantBytesLimit(t, strconv.Itoa(n)+" bytes of data", data)
		}
	}
}

func TestBytesSectionCount(t *testing.T) {
	wantBytesLimit(t, "nil sections", api.Container{})
	wantBytesLimit(t, "nil sections and data", api.Container{Data: "d"})
	for _, n := range []int{0, 1, 2, 5, 6, 7, 8, 255, 256, 257, 262, 65537, 1 << 20} {
		c := container("", make([]api.Section, n)...)
		for i := range c.Sections {
			c.Sections[i] = section(1, 2, 3, "c")
		}
		if 1 <= n && n <= 6 {
			wantBytes(t, c, "K\x01"+string([]byte{byte(n)})+strings.Repeat("\x01\x02\x03\x00\x01", n)+"\x00\x00"+strings.Repeat("c", n))
		} else {
			wantBytesLimit(t, strconv.Itoa(n)+" sections", c)
		}
	}
}

func TestBytesThenParse(t *testing.T) {
	r := chance()
	for range 5000 {
		c := chanceContainer(r)
		b, e := keel.Bytes(c)
		if e != api.OK {
			t.Fatalf("Bytes(%s) = %d", show(c), e)
		}
		wantParse(t, b, c)
	}
}
