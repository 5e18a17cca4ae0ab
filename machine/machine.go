// Package machine runs containers that hold together. Package check has looked at all that their code can do, and nothing of it is looked at again here: one that was not found good must not come in.
package machine

import (
	"keel/api"
	"keel/ops"
)

// Run gives what becomes of a container that runs with this gas.
func Run(c api.Container, gas int) api.Outcome {
	m := begin(c, gas)
	m.run(func(api.Step) {})
	return m.outcome
}

// Trace gives the steps of that run, at most the first n.
func Trace(c api.Container, gas, n int) []api.Step {
	steps := make(chan api.Step)
	go send(begin(c, gas), steps)
	var first []api.Step
	// The steps behind the first n are received too, so that the sender comes to its end.
	for step := range steps {
		if len(first) < n {
			first = append(first, step)
		}
	}
	return first
}

// send closes the channel as its very last deed: who ranges to the end of that knows that nothing runs any more.
func send(m *machine, steps chan<- api.Step) {
	defer close(steps)
	m.run(func(s api.Step) { steps <- s })
}

// machine is a run that goes on.
type machine struct {
	container api.Container
	codes     [][]ops.Instruction // by sections and places; only those places where an instruction begins count
	here      frame
	waiting   []frame // those that called, the last one at the end
	stack     stack
	memory    [api.MaxMemory]uint16
	outcome   api.Outcome
	ended     bool
}

// frame is where a section goes on.
type frame struct {
	section, place int
	base           int // how many values stand below the section's inputs
}

func begin(c api.Container, gas int) *machine {
	m := &machine{container: c, outcome: api.Outcome{Gas: gas}}
	for _, s := range c.Sections {
		m.codes = append(m.codes, byPlaces(s.Code))
	}
	return m
}

// byPlaces does not ask for the error of Split: check found none.
func byPlaces(code string) []ops.Instruction {
	places := make([]ops.Instruction, len(code))
	list, _, _ := ops.Split(code)
	for _, in := range list {
		places[in.Place] = in
	}
	return places
}

// run tells each step ahead of its doing, and asks of it no more than its cost.
func (m *machine) run(tell func(api.Step)) {
	defer m.settle()
	does := doings()
	for !m.ended {
		in := m.codes[m.here.section][m.here.place]
		if in.Cost() > m.outcome.Gas {
			m.end(api.Empty)
			return
		}
		m.outcome.Gas -= in.Cost()
		m.outcome.Steps++
		tell(m.step())
		m.here.place = in.End
		does[in.Op](m, in)
	}
}

func (m *machine) step() api.Step {
	return api.Step{Section: m.here.section, Place: m.here.place, Height: len(m.stack) - m.here.base}
}

func (m *machine) end(how int) {
	m.outcome.End = how
	m.ended = true
}

// settle takes back what was emitted, unless the run stopped.
func (m *machine) settle() {
	if m.outcome.End != api.Stop {
		m.outcome.Out = nil
	}
}
