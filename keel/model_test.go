package keel_test

import (
	"fmt"
	"slices"
	"testing"

	"keel/api"
	"keel/keel"
)

// model runs a container as the document's words say it, slowly and on plain numbers: each section that waits is a call of its own that has not ended, and each has its own stack.
type model struct {
	c      api.Container
	memory [16]int
	below  int // how many values stand on the stacks of all that wait, and under those
	wait   int
	o      api.Outcome
	steps  []api.Step
	done   [21]int // how often each op was done
}

// over ends a run from within all its calls.
type over struct{}

func (m *model) end(how int) {
	m.o.End = how
	panic(over{})
}

func modelled(c api.Container, gas int) *model {
	m := &model{c: c, o: api.Outcome{Gas: gas}}
	func() {
		defer func() {
			if wrong := recover(); wrong != (over{}) {
				panic(wrong)
			}
		}()
		m.run(0, nil)
	}()
	if m.o.End != api.Stop {
		m.o.Out = nil
	}
	return m
}

// run runs a section with these inputs, and gives its outputs.
func (m *model) run(section int, stack []int) []int {
	s := m.c.Sections[section]
	at := 0
	for {
		m.pay(section, at, len(stack))
		code := s.Code[at:] + "\x00\x00"
		takes, brings := effect(code, m.c.Sections, s)
		rest, taken := stack[:len(stack)-takes:len(stack)-takes], stack[len(stack)-takes:]
		n := int(code[1])
		switch code[0] {
		case 18:
			if m.wait == 8 {
				m.end(api.Deep)
			}
			m.room(n, len(stack))
			m.wait++
			m.below += len(rest)
			stack = append(rest, m.run(n, taken)...)
			m.below -= len(rest)
			m.wait--
		case 19:
			return taken
		case 20:
			m.room(n, len(stack))
			m.below += len(rest)
			out := append(rest, m.run(n, taken)...)
			m.below -= len(rest)
			return out
		default:
			stack = append(rest, m.plain(code, taken)...)
		}
		if len(stack) != len(rest)+brings {
			panic("an instruction brings another number of values")
		}
		at = m.follow(s.Code, at, taken)
	}
}

// pay takes the cost of an instruction, and tells the step.
func (m *model) pay(section, at, height int) {
	op := m.c.Sections[section].Code[at]
	cost := map[byte]int{12: 2, 14: 2, 18: 3}[op]
	if cost == 0 {
		cost = 1
	}
	if m.o.Gas < cost {
		m.end(api.Empty)
	}
	m.o.Gas -= cost
	m.o.Steps++
	m.done[op]++
	m.steps = append(m.steps, api.Step{Section: section, Place: at, Height: height})
}

func (m *model) room(section, height int) {
	s := m.c.Sections[section]
	if m.below+height+s.Max-s.Inputs > 64 {
		m.end(api.Full)
	}
}

// plain gives what an instruction brings that neither calls nor leaves a section.
func (m *model) plain(code string, taken []int) []int {
	value := func(v int) []int { return []int{(v%65536 + 65536) % 65536} }
	truth := map[bool][]int{true: {1}, false: {0}}
	switch code[0] {
	case 0:
		m.end(api.Stop)
	case 1:
		m.end(api.Fail)
	case 2:
		return []int{int(code[1])*256 + int(code[2])}
	case 4:
		return value(taken[0] + taken[1])
	case 5:
		return value(taken[0] - taken[1])
	case 6:
		return value(taken[0] * taken[1])
	case 7:
		return truth[taken[0] < taken[1]]
	case 8:
		return truth[taken[0] == taken[1]]
	case 9:
		return append(slices.Clone(taken), taken[0])
	case 10:
		last := len(taken) - 1
		return slices.Concat(taken[last:], taken[1:last], taken[:1])
	case 11:
		return []int{*m.word(taken[0])}
	case 12:
		*m.word(taken[1]) = taken[0]
	case 13:
		if taken[0] < len(m.c.Data) {
			return []int{int(m.c.Data[taken[0]])}
		}
		return []int{0}
	case 14:
		m.o.Out = append(m.o.Out, taken[0])
	}
	return nil
}

func (m *model) word(a int) *int {
	if a >= 16 {
		m.end(api.Wide)
	}
	return &m.memory[a]
}

// follow gives the place at which the code goes on.
func (m *model) follow(code string, at int, taken []int) int {
	ways := next(code, at)
	switch {
	case code[at] == 16 && taken[0] != 0:
		return ways[1]
	case code[at] == 17 && taken[0] < len(ways)-1:
		return ways[1+taken[0]]
	}
	return ways[0]
}

// begins gives the places at which the instructions of a code begin.
func begins(code string) []int {
	var places []int
	for at := 0; at < len(code); {
		places = append(places, at)
		switch op := code[at]; {
		case op == 2 || op == 15 || op == 16:
			at += 3
		case op == 9 || op == 10 || op == 18 || op == 20:
			at += 2
		case op == 17:
			at += 4 + 2*int(code[at+1])
		default:
			at++
		}
	}
	return places
}

// P7: what is wrong with a step, if anything is.
func wrongStep(c api.Container, at api.Step) string {
	if at.Section < 0 || at.Section >= len(c.Sections) {
		return "is in no section"
	}
	s := c.Sections[at.Section]
	if !slices.Contains(begins(s.Code), at.Place) {
		return "is at no instruction"
	}
	if takes, _ := effect(s.Code[at.Place:], c.Sections, s); at.Height < takes {
		return fmt.Sprintf("takes %d", takes)
	}
	if at.Height > s.Max {
		return fmt.Sprintf("is above Max %d", s.Max)
	}
	return ""
}

// P5, P6 and P7, of any containers that hold together.
func TestRunAsModelled(t *testing.T) {
	r := chance()
	var ends [6]int
	var done [21]int
	for range 40000 {
		c := chanceProgram(r)
		if e, _, _ := keel.Check(c); e != api.OK {
			continue
		}
		b, gas, n := written(t, c), []int{r.Intn(30), r.Intn(300), r.Intn(3001)}[r.Intn(3)], r.Intn(401)
		m := modelled(c, gas)
		ends[m.o.End]++
		for op, times := range m.done {
			done[op] += times
		}
		if o, e := keel.Run(b, gas); e != api.OK || !sameOutcome(o, m.o) {
			t.Fatalf("P5: Run(%s, %d) = %+v, %d, want %+v", show(c), gas, o, e, m.o)
		}
		l, e := keel.Trace(b, gas, n)
		if e != api.OK || !slices.Equal(l, m.steps[:min(n, len(m.steps))]) {
			t.Fatalf("P6: Trace(%s, %d, %d) = %v, %d, want of %v", show(c), gas, n, l, e, m.steps)
		}
		if m.o.Steps > gas || m.o.Gas < 0 {
			t.Fatalf("P7: Run(%s, %d) = %+v", show(c), gas, m.o)
		}
		for _, at := range l {
			if wrong := wrongStep(c, at); wrong != "" {
				t.Fatalf("P7: Trace(%s, %d, %d): the step %v %s", show(c), gas, n, at, wrong)
			}
		}
	}
	t.Logf("ends %d, ops %d", ends, done)
	if slices.Min(ends[:]) < 20 || slices.Min(done[:]) < 100 {
		t.Errorf("too few of some: ends %d, ops %d", ends, done)
	}
}
