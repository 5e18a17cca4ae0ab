package check

import (
	"keel/api"
	"keel/ops"
)

// look is what is known of one section while it is looked at.
type look struct {
	sections []api.Section
	own      api.Section
	code     []ops.Instruction
	heights  []span // by places; only those where an instruction begins count
}

// span is the least and the greatest height that an instruction got, if it got any.
type span struct {
	got             bool
	least, greatest int
}

// whole gives the first thing that is wrong in the section, with its place. Each look goes through all of the code before the next begins, for it leans on what that found good.
func (l *look) whole() (api.Errno, int) {
	if e, place := l.split(); e != api.OK {
		return e, place
	}
	if e, place := l.each(l.references); e != api.OK {
		return e, place
	}
	l.heights[0] = span{true, l.own.Inputs, l.own.Inputs}
	if e, place := l.each(l.flow); e != api.OK {
		return e, place
	}
	return l.sums(), 0
}

func (l *look) each(one func(ops.Instruction) api.Errno) (api.Errno, int) {
	for _, in := range l.code {
		if e := one(in); e != api.OK {
			return e, in.Place
		}
	}
	return api.OK, 0
}

func (l *look) split() (e api.Errno, place int) {
	l.code, e, place = ops.Split(l.own.Code)
	return e, place
}

// references looks at what an instruction names: places and sections.
func (l *look) references(in ops.Instruction) api.Errno {
	for _, place := range in.Targets {
		if !l.begins(place) {
			return api.ErrTarget
		}
	}
	if names(in) && !l.mayName(in) {
		return api.ErrSection
	}
	return api.OK
}

func (l *look) begins(place int) bool {
	for _, in := range l.code {
		if in.Place == place {
			return true
		}
	}
	return false
}

func (l *look) mayName(in ops.Instruction) bool {
	if in.Number >= len(l.sections) {
		return false
	}
	return in.Op == ops.Goto || l.sections[in.Number].Outputs != api.Never
}

// flow looks at an instruction with the heights that it got, and gives heights to those that come next. Those that stand ahead of it have been looked at with the heights that they had, so these are settled.
func (l *look) flow(in ops.Instruction) api.Errno {
	has := l.heights[in.Place]
	takes, brings := in.Effect(l.sections, l.own)
	switch {
	case !has.got:
		return api.ErrReach
	case has.least < takes:
		return api.ErrLow
	case l.returns(in) && !l.mayReturn(in, has):
		return api.ErrReturn
	case !in.Last() && in.End == len(l.own.Code):
		return api.ErrEnd
	}
	gives := span{true, has.least - takes + brings, has.greatest - takes + brings}
	for _, place := range in.Targets {
		if !l.give(in.Place, place, gives) {
			return api.ErrBack
		}
	}
	if !in.Last() {
		l.give(in.Place, in.End, gives)
	}
	return api.OK
}

// returns tells whether the section is left so that its caller goes on in the end.
func (l *look) returns(in ops.Instruction) bool {
	return in.Op == ops.Return || in.Op == ops.Goto && l.sections[in.Number].Outputs != api.Never
}

// mayReturn tells whether the caller finds just the section's outputs, be it that another section brings the last of them.
func (l *look) mayReturn(in ops.Instruction, has span) bool {
	want := l.own.Outputs
	if in.Op == ops.Goto {
		next := l.sections[in.Number]
		if l.own.Outputs < next.Outputs {
			return false
		}
		want += next.Inputs - next.Outputs
	}
	return l.own.Outputs != api.Never && has.least == want && has.greatest == want
}

// give tells whether an instruction can have these heights, when another one leads to it.
func (l *look) give(from, to int, heights span) bool {
	if to <= from {
		return l.heights[to] == heights
	}
	if had := l.heights[to]; had.got {
		heights.least = min(heights.least, had.least)
		heights.greatest = max(heights.greatest, had.greatest)
	}
	l.heights[to] = heights
	return true
}

// sums looks at what only all instructions together tell.
func (l *look) sums() api.Errno {
	greatest, returns := 0, false
	for _, in := range l.code {
		greatest = max(greatest, l.heights[in.Place].greatest)
		returns = returns || l.returns(in)
	}
	if greatest != l.own.Max {
		return api.ErrMax
	}
	if returns == (l.own.Outputs == api.Never) {
		return api.ErrNever
	}
	return api.OK
}
