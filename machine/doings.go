package machine

import (
	"keel/api"
	"keel/ops"
)

// doing is what an instruction does. When it begins, the place is the one behind the instruction already.
type doing func(*machine, ops.Instruction)

// doings has them by ops.
func doings() [ops.Goto + 1]doing {
	return [...]doing{
		ops.Stop:   (*machine).stop,
		ops.Fail:   (*machine).fail,
		ops.Push:   (*machine).push,
		ops.Pop:    (*machine).pop,
		ops.Add:    (*machine).add,
		ops.Sub:    (*machine).sub,
		ops.Mul:    (*machine).mul,
		ops.Less:   (*machine).less,
		ops.Same:   (*machine).same,
		ops.Dup:    (*machine).dup,
		ops.Swap:   (*machine).swap,
		ops.Load:   (*machine).load,
		ops.Store:  (*machine).store,
		ops.Data:   (*machine).data,
		ops.Emit:   (*machine).emit,
		ops.Jump:   (*machine).jump,
		ops.If:     (*machine).jumpIf,
		ops.Table:  (*machine).jumpBy,
		ops.Call:   (*machine).call,
		ops.Return: (*machine).goBack,
		ops.Goto:   (*machine).goOver,
	}
}

func (m *machine) stop(ops.Instruction) { m.end(api.Stop) }

func (m *machine) fail(ops.Instruction) { m.end(api.Fail) }

func (m *machine) push(in ops.Instruction) { m.stack.lay(uint16(in.Number)) }

func (m *machine) pop(ops.Instruction) { m.stack.take() }

func (m *machine) add(ops.Instruction) {
	a, b := m.stack.takeTwo()
	m.stack.lay(a + b)
}

func (m *machine) sub(ops.Instruction) {
	a, b := m.stack.takeTwo()
	m.stack.lay(a - b)
}

func (m *machine) mul(ops.Instruction) {
	a, b := m.stack.takeTwo()
	m.stack.lay(a * b)
}

func (m *machine) less(ops.Instruction) {
	a, b := m.stack.takeTwo()
	m.stack.lay(truth(a < b))
}

func (m *machine) same(ops.Instruction) {
	a, b := m.stack.takeTwo()
	m.stack.lay(truth(a == b))
}

func truth(holds bool) uint16 {
	if holds {
		return 1
	}
	return 0
}

func (m *machine) dup(in ops.Instruction) { m.stack.lay(m.stack[m.stack.under(in.Number)]) }

func (m *machine) swap(in ops.Instruction) {
	x, y := m.stack.under(in.Number+1), m.stack.under(0)
	m.stack[x], m.stack[y] = m.stack[y], m.stack[x]
}

func (m *machine) load(ops.Instruction) {
	a := m.stack.take()
	if a >= api.MaxMemory {
		m.end(api.Wide)
		return
	}
	m.stack.lay(m.memory[a])
}

func (m *machine) store(ops.Instruction) {
	v, a := m.stack.takeTwo()
	if a >= api.MaxMemory {
		m.end(api.Wide)
		return
	}
	m.memory[a] = v
}

func (m *machine) data(ops.Instruction) {
	a, v := int(m.stack.take()), uint16(0)
	if a < len(m.container.Data) {
		v = uint16(m.container.Data[a])
	}
	m.stack.lay(v)
}

func (m *machine) emit(ops.Instruction) {
	m.outcome.Out = append(m.outcome.Out, int(m.stack.take()))
}

func (m *machine) jump(in ops.Instruction) { m.here.place = in.Targets[0] }

func (m *machine) jumpIf(in ops.Instruction) {
	if m.stack.take() != 0 {
		m.here.place = in.Targets[0]
	}
}

func (m *machine) jumpBy(in ops.Instruction) {
	if a := int(m.stack.take()); a < len(in.Targets) {
		m.here.place = in.Targets[a]
	}
}
