package wire

import (
	"strings"

	"keel/api"
)

// magic is what all containers begin with: 75, 1.
const magic = "\x4b\x01"

// Read reads a container that fills the bytes to their end.
func Read(b string) (api.Container, api.Errno) {
	r := reader{rest: b}
	r.begin()
	c := api.Container{Sections: make([]api.Section, r.number(1, countFits))}
	var lengths [api.MaxSections]int
	for i := range c.Sections {
		c.Sections[i], lengths[i] = r.head()
	}
	dataLength := r.number(2, dataFits)
	for i := range c.Sections {
		c.Sections[i].Code = r.text(lengths[i])
	}
	c.Data = r.text(dataLength)
	r.end()
	if r.errno != api.OK {
		return api.Container{}, r.errno
	}
	return c, api.OK
}

// reader goes through bytes from the left. Behind its first error it takes nothing more, so that this one is the answer.
type reader struct {
	rest  string
	errno api.Errno
}

// begin compares before it takes: a wrong byte counts even where the other one is missing.
func (r *reader) begin() {
	for i := range min(len(r.rest), len(magic)) {
		if r.rest[i] != magic[i] {
			r.errno = api.ErrMagic
			return
		}
	}
	r.take(len(magic))
}

// head reads the numbers of a section: the section without its code, and the length of that.
func (r *reader) head() (api.Section, int) {
	var s api.Section
	s.Inputs = r.number(1, inputsFit)
	s.Outputs = r.number(1, outputsFit)
	s.Max = r.number(1, maxFits)
	return s, r.number(2, codeFits)
}

// number answers 0 with an error, so that nothing is made of a number that is not good.
func (r *reader) number(size int, fits func(int) bool) int {
	digits := r.take(size)
	if r.errno != api.OK {
		return 0
	}
	n := 0
	for i := range len(digits) {
		n = n<<8 | int(digits[i])
	}
	if !fits(n) {
		r.errno = api.ErrLimit
		return 0
	}
	return n
}

// text copies what it takes, for an answer shares no memory with what was handed in.
func (r *reader) text(size int) string {
	return strings.Clone(r.take(size))
}

func (r *reader) take(size int) string {
	if r.errno != api.OK {
		return ""
	}
	if len(r.rest) < size {
		r.errno = api.ErrShort
		return ""
	}
	taken := r.rest[:size]
	r.rest = r.rest[size:]
	return taken
}

func (r *reader) end() {
	if r.errno == api.OK && r.rest != "" {
		r.errno = api.ErrMore
	}
}
