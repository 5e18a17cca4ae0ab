package machine

import (
	"keel/api"
	"keel/ops"
)

func (m *machine) call(in ops.Instruction) {
	if len(m.waiting) == api.MaxFrames {
		m.end(api.Deep)
		return
	}
	m.waiting = append(m.waiting, m.here)
	m.enter(in.Number)
}

func (m *machine) goOver(in ops.Instruction) { m.enter(in.Number) }

func (m *machine) goBack(ops.Instruction) {
	last := len(m.waiting) - 1
	m.here = m.waiting[last]
	m.waiting = m.waiting[:last]
}

// enter makes sure of all the room that the section can ever need, so that no value that it lays has to ask for some.
func (m *machine) enter(section int) {
	s := m.container.Sections[section]
	if len(m.stack)+s.Max-s.Inputs > api.MaxStack {
		m.end(api.Full)
		return
	}
	m.here = frame{section: section, base: len(m.stack) - s.Inputs}
}
