// Package ops knows the instructions: how each lies in a code, and what it takes and brings.
package ops

import "keel/api"

// The ops, in the order of their numbers.
const (
	Stop = iota
	Fail
	Push
	Pop
	Add
	Sub
	Mul
	Less
	Same
	Dup
	Swap
	Load
	Store
	Data
	Emit
	Jump
	If
	Table
	Call
	Return
	Goto
)

// row is what holds for every instruction with an op; a Table is longer by its targets, and what Dup, Swap, Call, Return and Goto take and bring is not the op's alone.
type row struct {
	size, takes, brings, cost int
	last                      bool
}

var rows = [...]row{
	Stop:   {1, 0, 0, 1, true},
	Fail:   {1, 0, 0, 1, true},
	Push:   {3, 0, 1, 1, false},
	Pop:    {1, 1, 0, 1, false},
	Add:    {1, 2, 1, 1, false},
	Sub:    {1, 2, 1, 1, false},
	Mul:    {1, 2, 1, 1, false},
	Less:   {1, 2, 1, 1, false},
	Same:   {1, 2, 1, 1, false},
	Dup:    {2, 1, 2, 1, false},
	Swap:   {2, 2, 2, 1, false},
	Load:   {1, 1, 1, 1, false},
	Store:  {1, 2, 0, 2, false},
	Data:   {1, 1, 1, 1, false},
	Emit:   {1, 1, 0, 2, false},
	Jump:   {3, 0, 0, 1, true},
	If:     {3, 1, 0, 1, false},
	Table:  {2, 1, 0, 1, false},
	Call:   {2, 0, 0, 3, false},
	Return: {1, 0, 0, 1, true},
	Goto:   {2, 0, 0, 1, true},
}

// Instruction is one of a code.
type Instruction struct {
	Op      int
	Place   int
	End     int   // the place behind it
	Number  int   // the v of Push, the n of Dup and Swap, the s of Call and Goto
	Targets []int // the places that its d lead to, in order
}

// Split gives the instructions of a code in order, or what is wrong with the first that is none: ErrOp, if there is no such op, ErrCut, if it goes beyond the code's end; and its place.
func Split(code string) ([]Instruction, api.Errno, int) {
	var list []Instruction
	for place := 0; place < len(code); {
		in, e := read(code, place)
		if e != api.OK {
			return nil, e, place
		}
		list = append(list, in)
		place = in.End
	}
	return list, api.OK, 0
}

func read(code string, place int) (Instruction, api.Errno) {
	op := int(code[place])
	if op >= len(rows) {
		return Instruction{}, api.ErrOp
	}
	in := Instruction{Op: op, Place: place, End: place + size(code, place)}
	if in.End > len(code) {
		return Instruction{}, api.ErrCut
	}
	switch op {
	case Push:
		in.Number = number(code[place+1], code[place+2])
	case Dup, Swap, Call, Goto:
		in.Number = int(code[place+1])
	case Jump, If:
		in.Targets = targets(code, place+1, in.End)
	case Table:
		in.Targets = targets(code, place+2, in.End)
	}
	return in, api.OK
}

// size of a Table whose k is missing is that of its op and k, which is beyond the end already.
func size(code string, place int) int {
	n := rows[code[place]].size
	if code[place] == Table && place+1 < len(code) {
		n += 2 * (int(code[place+1]) + 1)
	}
	return n
}

func targets(code string, from, end int) []int {
	var places []int
	for at := from; at < end; at += 2 {
		places = append(places, end+signed(number(code[at], code[at+1])))
	}
	return places
}

func number(high, low byte) int { return int(high)<<8 | int(low) }

func signed(d int) int { return int(int16(d)) }

// Last tells whether the code never goes on behind it by itself.
func (in Instruction) Last() bool { return rows[in.Op].last }

// Cost tells how much gas it takes.
func (in Instruction) Cost() int { return rows[in.Op].cost }

// Effect tells how many values it takes and brings, in a section of these; a section that it names must be there.
func (in Instruction) Effect(sections []api.Section, own api.Section) (takes, brings int) {
	takes, brings = rows[in.Op].takes, rows[in.Op].brings
	switch in.Op {
	case Dup, Swap:
		return takes + in.Number, brings + in.Number
	case Call:
		return sections[in.Number].Inputs, sections[in.Number].Outputs
	case Goto:
		return sections[in.Number].Inputs, 0
	case Return:
		return outputs(own), 0
	}
	return takes, brings
}

// outputs of a section that never returns are none, though Never is a number.
func outputs(s api.Section) int {
	if s.Outputs == api.Never {
		return 0
	}
	return s.Outputs
}
