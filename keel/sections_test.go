package keel_test

import (
	"strings"
	"testing"

	"keel/api"
)

func TestRunCall(t *testing.T) {
	// Inputs and outputs keep their order, and what stands below stays.
	wantOutOf(t, fitted(container("", section(0, 128, 0, push(9)+push(1)+push(2)+call(1)+emit+emit+emit+stop), section(2, 2, 0, emit+push(5)+ret))), 2, 5, 1, 9)
	wantOutOf(t, fitted(container("", section(0, 128, 0, push(9)+push(1)+push(2)+call(1)+emit+emit+stop), section(2, 1, 0, sub+ret))), 65535, 9)
	wantOutOf(t, fitted(container("", section(0, 128, 0, push(9)+call(1)+emit+emit+emit+stop), section(0, 2, 0, push(7)+push(8)+ret))), 8, 7, 9)
	wantOutOf(t, fitted(container("", section(0, 128, 0, push(9)+push(8)+call(1)+emit+stop), section(1, 0, 0, pop+ret))), 9)
	// Nine in and nine out, one of them another.
	wantOutOf(t, fitted(container("", section(0, 128, 0, pushes(10)+call(1)+strings.Repeat(emit, 10)+stop), section(9, 9, 0, swap(7)+pop+push(77)+ret))), 77, 8, 7, 6, 5, 4, 3, 2, 9, 0)
	// It goes on behind each Call, also where the same section is called from several places and sections.
	both := container("", section(0, 128, 0, call(1)+call(2)+call(1)+stop), section(0, 0, 0, push(1)+emit+ret), section(0, 0, 0, push(2)+emit+call(1)+push(3)+emit+ret))
	wantOutOf(t, fitted(both), 1, 2, 1, 3, 1)
	// A section may stop or fail, though others wait for it.
	wantOutOf(t, fitted(container("", section(0, 128, 0, push(1)+call(1)+fail), section(1, 0, 0, branch(1)+ret+stop))))
	wantEnd(t, fitted(container("", section(0, 128, 0, push(1)+call(1)+stop), section(1, 0, 0, branch(1)+ret+fail))), api.Fail, 4, 6)
}

// down to 0, a section calls itself; what it has on the stack is its own each time.
func factorial(n int) api.Container {
	// n: if it is 0, 1; else n · factorial(n - 1)
	own := dup(0) + branch(5) + pop + push(1) + ret + dup(0) + push(1) + sub + call(1) + mul + ret
	return fitted(container("", section(0, 128, 0, push(n)+call(1)+emit+stop), section(1, 1, 0, own)))
}

func TestRunDeep(t *testing.T) {
	for n, want := range []int{1, 1, 2, 6, 24, 120, 720, 5040} {
		wantOutOf(t, factorial(n), want)
	}
	// Section 0 waits, and then seven more: the ninth Call, which would wait too, is too much.
	wantEnd(t, factorial(8), api.Deep, 1+1+8*6-1+1, 1+3+7*8+5+3)
	wantEnd(t, factorial(65535), api.Deep, 1+1+8*6-1+1, 1+3+7*8+5+3)
	// With just enough gas, and one less, for which Empty goes ahead.
	endless := container("", section(0, 128, 0, call(1)+stop), section(0, 0, 0, call(1)+ret))
	wantRun(t, endless, 27, api.Outcome{End: api.Deep, Steps: 9})
	wantRun(t, endless, 26, api.Outcome{End: api.Empty, Gas: 2, Steps: 8})
	// Those that have returned wait no more.
	wantOutOf(t, fitted(container("", section(0, 128, 0, strings.Repeat(call(1), 50)+stop), section(0, 0, 0, ret))))
	wantOutOf(t, fitted(container("", section(0, 128, 0, strings.Repeat(push(7)+call(1)+pop, 2)+push(7)+call(1)+emit+stop), factorial(0).Sections[1])), 5040)
	// One that a section has gone over to stands in for it, and waits for nobody.
	wantEnd(t, container("", section(0, 128, 0, goOver(1)), section(0, 128, 0, call(2)+stop), section(0, 0, 0, call(2)+ret)), api.Deep, 10, 28)
	wantEnd(t, container("", section(0, 128, 0, call(1)+stop), section(0, 0, 0, goOver(2)), section(0, 0, 0, call(1)+ret)), api.Deep, 17, 35)
}

// tower lays so much in each of its calls of itself.
func tower(lays int) api.Container {
	own := push(1) + strings.Repeat(dup(0), lays-1) + call(1) + strings.Repeat(pop, lays) + ret
	return fitted(container("", section(0, 128, 0, call(1)+stop), section(0, 0, 0, own)))
}

func TestRunFull(t *testing.T) {
	// Eight times 8 are MaxStack; the ninth Call is too deep and too full, and Deep goes ahead.
	wantEnd(t, tower(8), api.Deep, 1+8*9, 3+8*11)
	// Eight times 9 are more: with seven below, the eighth has no room, and only seven sections wait then.
	wantEnd(t, tower(9), api.Full, 1+7*10, 3+7*12)
	wantEnd(t, tower(32), api.Full, 1+2*33, 3+2*35)
	wantEnd(t, tower(33), api.Full, 1+34, 3+36)
	// It is looked for at the Call, however little the section then lays.
	wantRun(t, tower(33), 38, api.Outcome{End: api.Empty, Gas: 2, Steps: 34})
	wantRun(t, tower(33), 39, api.Outcome{End: api.Full, Steps: 35})
}

// high lays values in section 0, goes on in section 1, which takes some of them, and lays more there.
func high(lays, inputs, most int, enter string, outputs int, end string) api.Container {
	first := push(1) + strings.Repeat(dup(0), lays-1) + enter
	if outputs != api.Never {
		first += stop
	}
	second := push(1) + strings.Repeat(dup(0), most-inputs-1) + strings.Repeat(pop, most-inputs) + end
	return container("", section(0, 128, lays, first), section(inputs, outputs, most, second))
}

func TestRunFullEdges(t *testing.T) {
	for inputs := range 10 {
		for lays := 34; lays <= 40; lays++ {
			room := 64 - lays
			calls := high(lays, inputs, inputs+room, call(1), inputs, ret)
			wantRun(t, calls, 3000, api.Outcome{End: api.Stop, Gas: 3000 - lays - 3 - 2*room - 2, Steps: lays + 1 + 2*room + 2})
			goes := high(lays, inputs, inputs+room, goOver(1), api.Never, stop)
			wantRun(t, goes, 3000, api.Outcome{End: api.Stop, Gas: 3000 - lays - 1 - 2*room - 1, Steps: lays + 1 + 2*room + 1})
			wantEnd(t, high(lays, inputs, inputs+room+1, call(1), inputs, ret), api.Full, lays+1, lays+3)
			wantEnd(t, high(lays, inputs, inputs+room+1, goOver(1), api.Never, stop), api.Full, lays+1, lays+1)
			wantRun(t, high(lays, inputs, inputs+room+1, goOver(1), api.Never, stop), lays, api.Outcome{End: api.Empty, Steps: lays})
		}
	}
}

func TestRunGotoNever(t *testing.T) {
	wantRun(t, never(0, goOver(0)), 100, api.Outcome{End: api.Empty, Steps: 100})
	// What is left below stays there, and fills the stack in the end: 64 of these fit.
	wantEnd(t, never(1, push(1)+goOver(0)), api.Full, 2*64, 2*64)
	wantEnd(t, never(2, push(1)+push(1)+goOver(0)), api.Full, 3*32, 3*32)
	wantEnd(t, never(3, push(1)+push(1)+push(1)+goOver(0)), api.Full, 4*21, 4*21)
	// What it takes along is not below.
	wantRun(t, container("", section(0, 128, 1, push(1)+goOver(1)), section(1, 128, 2, push(1)+add+goOver(1))), 100, api.Outcome{End: api.Empty, Steps: 100})
	wantOutOf(t, fitted(container("", section(0, 128, 0, push(1)+push(2)+push(3)+goOver(1)), section(2, 128, 0, emit+emit+stop))), 3, 2)
	// With different heights, all of which are enough for it.
	for a, want := range []int{8, 9} {
		wantOutOf(t, fitted(container("", section(0, 128, 0, push(7)+push(9)+push(a)+branch(3)+push(8)+goOver(1)), section(1, 128, 0, emit+stop))), want)
	}
	// A section that was called may go over to one that never returns.
	wantOutOf(t, fitted(container("", section(0, 128, 0, push(1)+call(1)+fail), section(1, 0, 0, branch(1)+ret+push(3)+goOver(2)), section(1, 128, 0, emit+stop))), 3)
}

func TestRunGotoReturns(t *testing.T) {
	// Section 1 leaves 8 below what section 2 takes: with what that gives, these are its outputs.
	wantOutOf(t, fitted(container("", section(0, 128, 0, push(5)+call(1)+emit+emit+emit+stop), section(0, 2, 0, push(8)+push(9)+goOver(2)), section(1, 1, 0, push(1)+add+ret))), 10, 8, 5)
	wantOutOf(t, fitted(container("", section(0, 128, 0, push(5)+call(1)+emit+emit+stop), section(0, 1, 0, push(8)+push(9)+push(10)+goOver(2)), section(3, 1, 0, add+sub+ret))), 65525, 5)
	wantOutOf(t, fitted(container("", section(0, 128, 0, push(5)+call(1)+emit+emit+stop), section(0, 2, 0, push(8)+goOver(2)), section(0, 1, 0, push(9)+ret))), 9, 8)
	wantOutOf(t, fitted(container("", section(0, 128, 0, push(5)+call(1)+emit+emit+stop), section(1, 2, 0, goOver(2)), section(0, 1, 0, push(9)+ret))), 9, 5)
	// Over many of them, none of which waits: from 100 down to 0.
	wantOutOf(t, fitted(container("", section(0, 128, 0, push(100)+call(1)+emit+stop), section(1, 1, 0, push(1)+sub+dup(0)+branch(1)+ret+goOver(1)))), 0)
	// It returns to where that one would, whose caller waits behind the inner Call.
	wantOutOf(t, fitted(container("", section(0, 128, 0, call(1)+push(4)+emit+stop), section(0, 0, 0, call(2)+push(3)+emit+ret), section(0, 0, 0, push(1)+emit+goOver(3)), section(0, 0, 0, push(2)+emit+ret))), 1, 2, 3, 4)
}
