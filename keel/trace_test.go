package keel_test

import (
	"math"
	"slices"
	"strings"
	"testing"

	"keel/api"
	"keel/keel"
)

func steps(list ...[3]int) []api.Step {
	var all []api.Step
	for _, x := range list {
		all = append(all, api.Step{Section: x[0], Place: x[1], Height: x[2]})
	}
	return all
}

// wantTrace asks for the whole trace, and for each of its beginnings.
func wantTrace(t *testing.T, c api.Container, gas int, want []api.Step) {
	t.Helper()
	wantGood(t, c)
	for n := range len(want) + 3 {
		if l, e := keel.Trace(written(t, c), gas, n); e != api.OK || !slices.Equal(l, want[:min(n, len(want))]) {
			t.Errorf("P6: Trace(%s, %d, %d) = %v, %d, want of %v", show(c), gas, n, l, e, want)
		}
	}
}

func TestTraceExample(t *testing.T) {
	square := container("", section(0, 128, 1, push(5)+call(1)+emit+stop), section(1, 1, 2, dup(0)+mul+ret))
	all := steps([3]int{0, 0, 0}, [3]int{0, 3, 1}, [3]int{1, 0, 1}, [3]int{1, 2, 2}, [3]int{1, 3, 1}, [3]int{0, 5, 1}, [3]int{0, 6, 0})
	wantTrace(t, square, 20, all)
	// An instruction for which the gas was not enough is none.
	for gas, n := range []int{0, 1, 1, 1, 2, 3, 4, 5, 5, 6, 7, 7, 7} {
		wantTrace(t, square, gas, all[:n])
	}
}

func TestTraceCount(t *testing.T) {
	for _, n := range []int{-1, 401, math.MinInt, math.MaxInt, 1 << 32, 1<<32 + 1} {
		if l, e := keel.Trace(example, 5, n); e != api.ErrCount || len(l) != 0 {
			t.Errorf("P6: Trace(.., 5, %d) = %v, %d, want ErrCount and nothing else", n, l, e)
		}
		if l, e := keel.Trace(example, 3001, n); e != api.ErrGas || len(l) != 0 {
			t.Errorf("P6: Trace(.., 3001, %d) = %v, %d, want ErrGas and nothing else", n, l, e)
		}
	}
	loop := written(t, never(1, push(1)+pop+jump(-7)))
	for _, x := range []struct{ gas, n, want int }{{3000, 400, 400}, {3000, 399, 399}, {401, 400, 400}, {400, 400, 400}, {399, 400, 399}, {3000, 0, 0}, {0, 400, 0}, {0, 0, 0}, {1, 0, 0}, {1, 1, 1}} {
		l, e := keel.Trace(loop, x.gas, x.n)
		if e != api.OK || len(l) != x.want {
			t.Errorf("P6: Trace(.., %d, %d) has %d steps, error %d, want %d", x.gas, x.n, len(l), e, x.want)
		}
		for i, s := range l {
			if want := steps([3]int{0, 0, 0}, [3]int{0, 3, 1}, [3]int{0, 4, 0})[i%3]; s != want {
				t.Fatalf("P6: step %d is %v, want %v", i, s, want)
			}
		}
	}
}

// The instruction at which a run ends is a step, unless the gas was not enough for it.
func TestTraceEnds(t *testing.T) {
	wantTrace(t, never(0, stop), 9, steps([3]int{0, 0, 0}))
	wantTrace(t, never(0, fail), 9, steps([3]int{0, 0, 0}))
	wantTrace(t, never(0, stop), 0, nil)
	wantTrace(t, never(1, push(16)+load+stop), 9, steps([3]int{0, 0, 0}, [3]int{0, 3, 1}))
	wantTrace(t, never(2, push(1)+push(16)+store+stop), 9, steps([3]int{0, 0, 0}, [3]int{0, 3, 1}, [3]int{0, 6, 2}))
	wantTrace(t, never(2, push(1)+push(16)+store+stop), 3, steps([3]int{0, 0, 0}, [3]int{0, 3, 1}))
	one := [3]int{1, 0, 0}
	wantTrace(t, container("", section(0, 128, 0, call(1)+stop), section(0, 0, 0, call(1)+ret)), 99, steps([3]int{0, 0, 0}, one, one, one, one, one, one, one, one))
	wantTrace(t, never(40, push(1)+strings.Repeat(dup(0), 39)+goOver(0)), 99, climb(40))
}

// climb is the steps of a section that lays so many values, and then goes to itself.
func climb(n int) []api.Step {
	list := steps([3]int{0, 0, 0})
	for i := range n {
		list = append(list, api.Step{Place: 3 + 2*i, Height: i + 1})
	}
	return list
}

// A height is above what stood below the section's inputs, whichever way the section began and whichever it is come back to.
func TestTraceHeights(t *testing.T) {
	called := container("", section(0, 128, 4, push(9)+push(1)+push(2)+call(1)+stop), section(2, 3, 3, push(3)+ret))
	wantTrace(t, called, 99, steps([3]int{0, 0, 0}, [3]int{0, 3, 1}, [3]int{0, 6, 2}, [3]int{0, 9, 3}, [3]int{1, 0, 2}, [3]int{1, 3, 3}, [3]int{0, 11, 4}))
	gone := container("", section(0, 128, 3, push(9)+push(1)+push(2)+goOver(1)), section(2, 128, 2, pop+goOver(2)), section(0, 128, 1, push(1)+pop+stop))
	wantTrace(t, gone, 99, steps([3]int{0, 0, 0}, [3]int{0, 3, 1}, [3]int{0, 6, 2}, [3]int{0, 9, 3}, [3]int{1, 0, 2}, [3]int{1, 1, 1}, [3]int{2, 0, 0}, [3]int{2, 3, 1}, [3]int{2, 4, 0}))
	// Section 1 leaves one value below what section 2 takes; section 0 gets both.
	over := container("", section(0, 128, 3, push(5)+call(1)+stop), section(0, 2, 2, push(8)+push(9)+goOver(2)), section(1, 1, 2, push(1)+add+ret))
	wantTrace(t, over, 99, steps([3]int{0, 0, 0}, [3]int{0, 3, 1}, [3]int{1, 0, 0}, [3]int{1, 3, 1}, [3]int{1, 6, 2}, [3]int{2, 0, 1}, [3]int{2, 3, 2}, [3]int{2, 4, 1}, [3]int{0, 5, 3}))
	// Two deep, with values below each.
	nested := container("", section(0, 128, 1, push(5)+call(1)+stop), section(0, 0, 1, push(6)+call(2)+pop+ret), section(0, 0, 0, ret))
	wantTrace(t, nested, 99, steps([3]int{0, 0, 0}, [3]int{0, 3, 1}, [3]int{1, 0, 0}, [3]int{1, 3, 1}, [3]int{2, 0, 0}, [3]int{1, 5, 1}, [3]int{1, 6, 0}, [3]int{0, 5, 1}))
}
