package keel_test

import (
	"strings"
	"testing"

	"keel/api"
)

// ways is nine bytes of code behind which the heights are 0 and 1.
var ways = push(1) + branch(3) + push(1)

// Ahead, heights widen: the least counts for what is taken, the greatest for Max.
func TestCheckHeightsWiden(t *testing.T) {
	wantGood(t, never(2, ways+push(1)+pop+stop))
	wantCheck(t, never(1, ways+push(1)+pop+stop), api.ErrMax, 0, 0)
	wantCheck(t, never(3, ways+push(1)+pop+stop), api.ErrMax, 0, 0)
	wantCheck(t, never(1, ways+pop+stop), api.ErrLow, 0, 9)
	wantCheck(t, never(2, ways+push(1)+pop+pop+stop), api.ErrLow, 0, 13)
	// The greater height comes first, then the lesser one.
	other := pushes(2) + branch(3) + jump(1) + pop
	wantGood(t, never(2, other+push(1)+stop))
	wantCheck(t, never(2, other+pop+stop), api.ErrLow, 0, 13)
	wantCheck(t, never(2, other+pushes(2)+stop), api.ErrMax, 0, 0)
	// Three ways, with 0, 2 and 1: the last one lies between and changes nothing.
	three := push(1) + table(3, 12) + jump(12) + pushes(2) + jump(3) + push(1)
	wantGood(t, never(3, three+push(1)+stop))
	wantCheck(t, never(2, three+push(1)+stop), api.ErrMax, 0, 0)
	wantCheck(t, never(2, three+pop+stop), api.ErrLow, 0, 24)
}

// All targets of a Table get heights, and what follows it too.
func TestCheckHeightsOfTable(t *testing.T) {
	// Behind the Table stand four places; each in turn takes a value that is not there.
	for i := range 4 {
		places := []string{stop, stop, stop, stop}
		places[i] = pop
		wantCheck(t, never(1, push(1)+table(1, 2, 3)+strings.Join(places, "")+stop), api.ErrLow, 0, 11+i)
	}
	// With two values left each can take them.
	wantGood(t, never(3, pushes(3)+table(2, 4, 6)+pop+fail+pop+fail+pop+fail+pop+pop+stop))
	// A Table that leads thrice to one place gives it the same heights.
	wantGood(t, never(2, pushes(2)+table(1, 1, 1)+stop+pop+stop))
}

// Going back, the heights must be just the same, at both ends.
func TestCheckBack(t *testing.T) {
	wantGood(t, never(0, jump(-3)))
	wantGood(t, never(2, push(1)+push(1)+branch(-6)+stop))
	wantCheck(t, never(2, push(1)+push(1)+branch(-9)+stop), api.ErrBack, 0, 6)
	wantCheck(t, never(2, pushes(2)+pop+jump(-10)), api.ErrBack, 0, 7)
	wantGood(t, never(2, pushes(2)+pop+jump(-7)))
	wantCheck(t, never(2, pushes(2)+pop+jump(-4)), api.ErrBack, 0, 7)
	// 0 and 1 go back to 0 and 1.
	wantGood(t, never(1, ways+jump(-3)))
	wantGood(t, never(2, ways+push(1)+branch(-6)+stop))
	// 0 and 1 go back to 1, 1 and 2 go back to 1, 1 goes back to 0 and 1.
	wantCheck(t, never(2, push(1)+dup(0)+branch(1)+pop+jump(-9)), api.ErrBack, 0, 9)
	wantCheck(t, never(2, push(1)+dup(0)+branch(3)+push(1)+jump(-11)), api.ErrBack, 0, 11)
	wantCheck(t, never(2, ways+push(1)+branch(-9)+stop), api.ErrBack, 0, 12)
	// An instruction stands not behind itself.
	wantCheck(t, never(1, push(1)+branch(-3)+stop), api.ErrBack, 0, 3)
	wantCheck(t, never(1, push(1)+table(-4)+stop), api.ErrBack, 0, 3)
	// Any of a Table's targets is enough.
	for i := range 3 {
		d := []int{-11, -11, -11}
		wantGood(t, never(1, push(1)+table(d...)+stop))
		d[i] = -8
		wantCheck(t, never(1, push(1)+table(d...)+stop), api.ErrBack, 0, 3)
	}
	// The first instruction has the section's inputs.
	wantGood(t, container("", section(0, 128, 2, pushes(2)+goOver(1)), section(2, 128, 3, push(1)+pop+jump(-7))))
	wantCheck(t, container("", section(0, 128, 2, pushes(2)+goOver(1)), section(2, 128, 2, pop+jump(-4))), api.ErrBack, 1, 1)
}

// The greatest height may stand anywhere in the code.
func TestCheckMax(t *testing.T) {
	for _, x := range []struct {
		most int
		code string
	}{{0, stop}, {1, push(1) + stop}, {3, pushes(3) + pop + pop + stop}, {2, push(1) + pop + pushes(2) + fail}, {2, pushes(2) + branch(0) + push(1) + stop}} {
		for most := range 41 {
			if most == x.most {
				wantGood(t, never(most, x.code))
			} else {
				wantCheck(t, never(most, x.code), api.ErrMax, 0, 0)
			}
		}
	}
	first := section(0, 128, 9, pushes(9)+goOver(1))
	wantGood(t, container("", first, section(9, 128, 9, pop+push(1)+stop)))
	wantCheck(t, container("", first, section(9, 128, 8, pop+stop)), api.ErrMax, 1, 0)
	// What a called section needs above its inputs is not counted.
	wantGood(t, container("", section(0, 128, 0, call(1)+stop), section(0, 0, 5, pushes(5)+strings.Repeat(pop, 5)+ret)))
}

// A section that has outputs must return somewhere, by a Return or by way of another section.
func TestCheckNever(t *testing.T) {
	boxed := func(most int, code string) api.Container {
		return container("", section(0, 128, 0, call(1)+call(2)+goOver(3)), section(0, 0, most, code), section(0, 0, 0, ret), section(0, 128, 0, stop))
	}
	for _, code := range []string{stop, fail, jump(-3), goOver(0), goOver(3), call(2) + stop, call(1) + stop, call(2) + goOver(3)} {
		wantCheck(t, boxed(0, code), api.ErrNever, 1, 0)
	}
	for _, code := range []string{ret, goOver(2), goOver(1), call(1) + ret} {
		wantGood(t, boxed(0, code))
	}
	for _, one := range []string{ret, goOver(2), goOver(1)} {
		for _, other := range []string{stop, fail, goOver(0), goOver(3), ret} {
			wantGood(t, boxed(1, push(1)+branch(len(one))+one+other))
			wantGood(t, boxed(1, push(1)+branch(len(other))+other+one))
		}
	}
}

func TestCheckUnused(t *testing.T) {
	end := section(0, 128, 0, stop)
	to := func(s byte) api.Section { return section(0, 128, 0, goOver(s)) }
	by := func(s byte) api.Section { return section(0, 0, 0, call(s)+ret) }
	wantCheck(t, container("", end, end), api.ErrUnused, 1, 0)
	wantCheck(t, container("", end, end, end), api.ErrUnused, 1, 0)
	wantCheck(t, container("", to(1), end, end), api.ErrUnused, 2, 0)
	wantCheck(t, container("", to(2), end, end), api.ErrUnused, 1, 0)
	wantCheck(t, container("", to(2), end, end, end), api.ErrUnused, 1, 0)
	// Only what a used section names is used: not what names itself, nor what two name in turn.
	wantCheck(t, container("", end, to(1)), api.ErrUnused, 1, 0)
	wantCheck(t, container("", end, by(1)), api.ErrUnused, 1, 0)
	wantCheck(t, container("", end, to(2), to(1)), api.ErrUnused, 1, 0)
	wantCheck(t, container("", to(1), end, to(1)), api.ErrUnused, 2, 0)
	wantCheck(t, container("", to(3), to(2), to(1), to(0)), api.ErrUnused, 1, 0)
	wantCheck(t, container("", end, to(0)), api.ErrUnused, 1, 0)
	// In whatever order they name each other.
	wantGood(t, container("", to(5), end, to(1), to(2), to(3), to(4)))
	wantGood(t, container("", to(1), to(2), to(3), to(4), to(5), to(0)))
	wantGood(t, container("", section(0, 128, 0, call(4)+stop), by(1), by(1), by(2), by(3)))
	wantCheck(t, container("", section(0, 128, 0, call(4)+stop), by(1), by(1), by(4), by(3)), api.ErrUnused, 1, 0)
	wantGood(t, container("", section(0, 128, 1, push(1)+branch(2)+goOver(1)+call(2)+stop), end, by(2)))
}
