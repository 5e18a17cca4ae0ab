package keel_test

import (
	"slices"
	"testing"

	"keel/api"
)

// fault is a code that is wrong, and where it is, in a section that takes and brings nothing.
type fault struct {
	e     api.Errno
	place int
	code  string
}

var (
	splitFaults = []fault{{api.ErrOp, 0, "\xff"}, {api.ErrOp, 3, push(1) + "\x15"}, {api.ErrCut, 0, "\x02\x00"}, {api.ErrCut, 1, pop + "\x11\x01\x00\x00\x00"}}
	nameFaults  = []fault{{api.ErrTarget, 0, jump(-1)}, {api.ErrTarget, 1, pop + branch(99)}, {api.ErrSection, 0, call(0)}, {api.ErrSection, 1, stop + goOver(9)}}
	flowFaults  = []fault{{api.ErrReach, 1, stop + stop}, {api.ErrLow, 0, pop}, {api.ErrReturn, 3, push(1) + ret}, {api.ErrBack, 3, push(1) + jump(-6)}}
	endFaults   = []fault{{api.ErrEnd, 0, push(1)}, {api.ErrEnd, 4, push(1) + pop + call(1)}}
)

// The looks of a section follow each other: what an earlier one finds, behind, goes ahead of what a later one finds, in front.
func TestCheckOrderOfLooks(t *testing.T) {
	boxed := func(code string) api.Container {
		return container("", section(0, 128, 9, code), section(0, 0, 0, ret))
	}
	for _, late := range slices.Concat(nameFaults, flowFaults) {
		for _, early := range splitFaults {
			wantCheck(t, boxed(late.code+early.code), early.e, 0, len(late.code)+early.place)
		}
	}
	for _, late := range flowFaults {
		for _, early := range nameFaults {
			wantCheck(t, boxed(late.code+early.code+stop), early.e, 0, len(late.code)+early.place)
		}
	}
	// Another Max comes behind all of these, and so does a section that is not used.
	for _, x := range slices.Concat(splitFaults, nameFaults, flowFaults, endFaults) {
		wantCheck(t, boxed(x.code), x.e, 0, x.place)
	}
}

// Within one look the place decides.
func TestCheckOrderOfPlaces(t *testing.T) {
	for _, early := range splitFaults[:2] {
		for _, late := range splitFaults {
			wantCheck(t, never(9, early.code+late.code), early.e, 0, early.place)
		}
	}
	for _, list := range [][]fault{nameFaults, flowFaults} {
		for _, early := range list {
			for _, late := range list {
				wantCheck(t, never(9, early.code+late.code), early.e, 0, early.place)
			}
		}
	}
	for _, early := range flowFaults {
		wantCheck(t, never(9, early.code+push(1)), early.e, 0, early.place)
	}
}

// Of one instruction several things are wrong.
func TestCheckOrderAtOnePlace(t *testing.T) {
	boxed := func(inputs, outputs int, code string) api.Container {
		return container("", section(0, 128, 0, stop), section(inputs, outputs, 9, code), section(2, 1, 2, add+ret))
	}
	// Not reached, and takes what no one can know; or returns; or has nothing behind it; or goes back.
	for _, code := range []string{pop, ret, push(1), dup(255), goOver(2), call(2), jump(-4), branch(-4), table(-7, -7)} {
		wantCheck(t, boxed(0, 0, stop+code), api.ErrReach, 1, 1)
	}
	// Too little for a Return or Goto that is not good; for what has nothing behind it; for what goes back.
	wantCheck(t, boxed(0, 2, push(1)+ret), api.ErrLow, 1, 3)
	wantCheck(t, boxed(0, 9, ways+ret), api.ErrLow, 1, 9)
	wantCheck(t, boxed(1, 0, goOver(2)), api.ErrLow, 1, 0)
	wantCheck(t, container("", section(0, 128, 0, goOver(1)), section(1, 1, 1, ret)), api.ErrLow, 0, 0)
	wantCheck(t, boxed(0, 0, pop), api.ErrLow, 1, 0)
	wantCheck(t, boxed(0, 0, dup(0)), api.ErrLow, 1, 0)
	wantCheck(t, boxed(0, 0, call(2)), api.ErrLow, 1, 0)
	wantCheck(t, boxed(0, 0, branch(-3)+ret), api.ErrLow, 1, 0)
	wantCheck(t, boxed(0, 0, branch(-3)), api.ErrLow, 1, 0)
	wantCheck(t, boxed(0, 0, table(-4)), api.ErrLow, 1, 0)
	// Nothing behind it, and other heights where it goes back to.
	wantCheck(t, boxed(1, 0, branch(-3)), api.ErrEnd, 1, 0)
	wantCheck(t, boxed(0, 0, push(1)+table(-6, -6)), api.ErrEnd, 1, 3)
	// Another Max, and no Return.
	wantCheck(t, container("", section(0, 128, 0, call(1)+stop), section(0, 0, 1, stop)), api.ErrMax, 1, 0)
}

// What is wrong in a section goes ahead of all that is wrong in the next one, and what is unused comes last.
func TestCheckOrderOfSections(t *testing.T) {
	all := slices.Concat(splitFaults, nameFaults, flowFaults, endFaults, []fault{{api.ErrMax, 0, stop}})
	for _, late := range append(all, fault{api.ErrNever, 0, jump(-3)}) {
		most := 9
		if late.e == api.ErrNever {
			most = 0
		}
		wrong := section(0, 0, most, late.code)
		wantCheck(t, container("", section(0, 128, 0, stop), wrong), late.e, 1, late.place)
		wantCheck(t, container("", section(1, 128, 1, stop), wrong), api.ErrFirst, 0, 0)
		wantCheck(t, container("", section(0, 128, 0, stop), section(0, 0, 0, stop), wrong), api.ErrNever, 1, 0)
		wantCheck(t, container("", section(0, 128, 0, stop), section(0, 0, 0, ret), section(0, 0, 1, ret), wrong), api.ErrMax, 2, 0)
		for _, early := range all {
			wantCheck(t, container("", section(0, 128, 9, early.code), wrong), early.e, 0, early.place)
			wantCheck(t, container("", section(0, 0, 9, early.code), wrong), api.ErrFirst, 0, 0)
			wantCheck(t, container("", section(0, 128, 9, early.code), section(0, 0, 41, ret)), api.ErrLimit, 0, 0)
		}
	}
}
