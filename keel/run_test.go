package keel_test

import (
	"math"
	"slices"
	"strings"
	"testing"

	"keel/api"
	"keel/keel"
)

// written gives the bytes of a container that is within its limits.
func written(t *testing.T, c api.Container) string {
	t.Helper()
	b, e := keel.Bytes(c)
	if e != api.OK {
		t.Fatalf("P3: Bytes(%s) = %d", show(c), e)
	}
	return b
}

func sameOutcome(a, b api.Outcome) bool {
	return a.End == b.End && slices.Equal(a.Out, b.Out) && a.Gas == b.Gas && a.Steps == b.Steps
}

func noOutcome(o api.Outcome) bool { return sameOutcome(o, api.Outcome{}) }

func wantRun(t *testing.T, c api.Container, gas int, want api.Outcome) {
	t.Helper()
	wantGood(t, c)
	if o, e := keel.Run(written(t, c), gas); e != api.OK || !sameOutcome(o, want) {
		t.Errorf("P5: Run(%s, %d) = %+v, %d, want %+v", show(c), gas, o, e, want)
	}
}

// wantEnd is of a run that ends otherwise than by Stop, behind steps that cost so much.
func wantEnd(t *testing.T, c api.Container, end, steps, cost int) {
	t.Helper()
	wantRun(t, c, 3000, api.Outcome{End: end, Gas: 3000 - cost, Steps: steps})
}

// wantOut runs one section, whose code stops behind this one, and asks for what it emitted alone.
func wantOut(t *testing.T, code string, out ...int) {
	t.Helper()
	wantOutOf(t, fitted(never(0, code+stop)), out...)
}

func wantOutOf(t *testing.T, c api.Container, out ...int) {
	t.Helper()
	wantGood(t, c)
	if o, e := keel.Run(written(t, c), 3000); e != api.OK || o.End != api.Stop || !slices.Equal(o.Out, out) {
		t.Errorf("P5: Run(%s) = %+v, %d, want Stop and %d", show(c), o, e, out)
	}
}

func TestRunExamples(t *testing.T) {
	sum := exampleContainer()
	wantRun(t, sum, 6, api.Outcome{End: api.Stop, Out: []int{5}, Steps: 5})
	wantRun(t, sum, 5, api.Outcome{End: api.Empty, Steps: 4})
	wantRun(t, sum, 4, api.Outcome{End: api.Empty, Gas: 1, Steps: 3})
	square := container("", section(0, 128, 1, push(5)+call(1)+emit+stop), section(1, 1, 2, dup(0)+mul+ret))
	wantRun(t, square, 20, api.Outcome{End: api.Stop, Out: []int{25}, Gas: 10, Steps: 7})
	deep := container("", section(0, 128, 0, call(1)+stop), section(0, 0, 0, call(1)+ret))
	wantRun(t, deep, 100, api.Outcome{End: api.Deep, Gas: 73, Steps: 9})
}

// P5: the error of Parse goes ahead of that of Check, and both ahead of ErrGas.
func TestRunErrors(t *testing.T) {
	high := written(t, never(3, push(2)+stop))
	for _, x := range []struct {
		b   string
		gas int
		e   api.Errno
	}{
		{"", 5, api.ErrShort}, {"", -1, api.ErrShort}, {"J", 3001, api.ErrMagic}, {"K\x02", 5, api.ErrMagic}, {"K\x01\x00", 5, api.ErrLimit}, {"K\x01\x07", -1, api.ErrLimit},
		{example + "\x00", 5, api.ErrMore}, {example + "\x00", -1, api.ErrMore}, {example[:len(example)-1], 5, api.ErrShort},
		{high + "\x00", 5, api.ErrMore}, {high[:len(high)-1], -1, api.ErrShort},
		{high, 5, api.ErrMax}, {high, -1, api.ErrMax}, {high, 3001, api.ErrMax},
		{written(t, container("", section(1, 128, 1, stop))), 5, api.ErrFirst},
		{written(t, never(0, "\x15")), 5, api.ErrOp}, {written(t, never(0, "\x02")), 5, api.ErrCut}, {written(t, never(0, jump(1)+stop)), 5, api.ErrTarget}, {written(t, never(0, call(1)+stop)), 5, api.ErrSection},
		{written(t, never(0, stop+stop)), 5, api.ErrReach}, {written(t, never(0, pop+stop)), 5, api.ErrLow}, {written(t, never(1, push(1)+jump(-6))), 5, api.ErrBack}, {written(t, never(0, ret)), 5, api.ErrReturn}, {written(t, never(1, push(1))), 5, api.ErrEnd},
		{written(t, container("", section(0, 128, 0, call(1)+stop), section(0, 0, 0, stop))), 5, api.ErrNever}, {written(t, container("", section(0, 128, 0, stop), section(0, 0, 0, ret))), -1, api.ErrUnused},
		{example, -1, api.ErrGas}, {example, 3001, api.ErrGas}, {example, math.MinInt, api.ErrGas}, {example, math.MaxInt, api.ErrGas}, {example, 1 << 32, api.ErrGas}, {example, 1<<32 + 5, api.ErrGas},
	} {
		if o, e := keel.Run(x.b, x.gas); e != x.e || !noOutcome(o) {
			t.Errorf("P5: Run(%.80q, %d) = %+v, %d, want %d and nothing else", x.b, x.gas, o, e, x.e)
		}
		for _, n := range []int{-1, 0, 5, 401} {
			if l, e := keel.Trace(x.b, x.gas, n); e != x.e || len(l) != 0 {
				t.Errorf("P6: Trace(%.80q, %d, %d) = %v, %d, want %d and nothing else", x.b, x.gas, n, l, e, x.e)
			}
		}
	}
}

func TestRunGasLimits(t *testing.T) {
	loop := never(0, jump(-3))
	wantRun(t, loop, 0, api.Outcome{End: api.Empty})
	wantRun(t, loop, 1, api.Outcome{End: api.Empty, Steps: 1})
	wantRun(t, loop, 3000, api.Outcome{End: api.Empty, Steps: 3000})
	wantRun(t, never(0, stop), 0, api.Outcome{End: api.Empty})
	wantRun(t, never(0, stop), 1, api.Outcome{End: api.Stop, Steps: 1})
	wantRun(t, never(0, stop), 3000, api.Outcome{End: api.Stop, Gas: 2999, Steps: 1})
	wantRun(t, never(0, fail), 1, api.Outcome{End: api.Fail, Steps: 1})
	wantRun(t, never(0, fail), 0, api.Outcome{End: api.Empty})
}

// wantCosts is of a container that stops, behind instructions of these costs; it runs with each gas up to theirs and more.
func wantCosts(t *testing.T, c api.Container, out []int, costs ...int) {
	t.Helper()
	c = fitted(c)
	for gas := range 40 {
		want := api.Outcome{End: api.Empty, Gas: gas}
		for _, cost := range costs {
			if cost > want.Gas {
				break
			}
			want.Gas -= cost
			want.Steps++
		}
		if want.Steps == len(costs) {
			want.End, want.Out = api.Stop, out
		}
		wantRun(t, c, gas, want)
	}
}

func TestRunCosts(t *testing.T) {
	wantCosts(t, never(0, stop), nil, 1)
	wantCosts(t, never(0, push(7)+stop), nil, 1, 1)
	wantCosts(t, never(0, push(7)+pop+stop), nil, 1, 1, 1)
	for _, op := range []string{add, sub, mul, less, alike, swap(0)} {
		wantCosts(t, never(0, push(7)+push(7)+op+stop), nil, 1, 1, 1, 1)
	}
	for _, op := range []string{dup(0), load, data, branch(0), table(0), table(0, 0)} {
		wantCosts(t, never(0, push(0)+op+stop), nil, 1, 1, 1)
		wantCosts(t, never(0, push(9)+op+stop), nil, 1, 1, 1)
	}
	wantCosts(t, never(0, push(7)+push(7)+store+stop), nil, 1, 1, 2, 1)
	wantCosts(t, never(0, push(7)+emit+stop), []int{7}, 1, 2, 1)
	wantCosts(t, never(0, push(7)+emit+push(7)+emit+stop), []int{7, 7}, 1, 2, 1, 2, 1)
	wantCosts(t, never(0, jump(0)+stop), nil, 1, 1)
	wantCosts(t, container("", section(0, 128, 0, call(1)+stop), section(0, 0, 0, ret)), nil, 3, 1, 1)
	wantCosts(t, container("", section(0, 128, 0, call(1)+call(1)+stop), section(0, 0, 0, ret)), nil, 3, 1, 3, 1, 1)
	wantCosts(t, container("", section(0, 128, 0, goOver(1)), section(0, 128, 0, stop)), nil, 1, 1)
	wantCosts(t, container("", section(0, 128, 0, call(1)+stop), section(0, 0, 0, goOver(2)), section(0, 0, 0, ret)), nil, 3, 1, 1, 1)
}

// P5: nothing is emitted unless the run stopped, whatever else it ended by.
func TestRunEmitsOnlyIfItStops(t *testing.T) {
	said := push(7) + emit
	wantRun(t, fitted(never(0, said+stop)), 100, api.Outcome{End: api.Stop, Out: []int{7}, Gas: 96, Steps: 3})
	wantRun(t, fitted(never(0, said+fail)), 100, api.Outcome{End: api.Fail, Gas: 96, Steps: 3})
	wantRun(t, fitted(never(0, said+stop)), 3, api.Outcome{End: api.Empty, Steps: 2})
	wantRun(t, fitted(never(0, said+jump(-3))), 100, api.Outcome{End: api.Empty, Steps: 99})
	wantRun(t, fitted(never(0, said+push(16)+load+stop)), 100, api.Outcome{End: api.Wide, Gas: 95, Steps: 4})
	wantRun(t, fitted(never(0, said+push(1)+push(16)+store+stop)), 100, api.Outcome{End: api.Wide, Gas: 93, Steps: 5})
	wantRun(t, fitted(container("", section(0, 128, 0, said+call(1)+stop), section(0, 0, 0, call(1)+ret))), 100, api.Outcome{End: api.Deep, Gas: 70, Steps: 11})
	wantRun(t, fitted(container("", section(0, 128, 0, said+push(1)+goOver(1)), section(0, 128, 0, pushes(39)+goOver(1)))), 100, api.Outcome{End: api.Full, Gas: 55, Steps: 44})
}

func TestRunEmits(t *testing.T) {
	wantOut(t, "")
	wantOut(t, push(0)+emit, 0)
	wantOut(t, push(65535)+emit, 65535)
	wantOut(t, push(0x1234)+emit, 0x1234)
	wantOut(t, push(32768)+emit, 32768)
	wantOut(t, push(255)+emit+push(256)+emit, 255, 256)
	wantOut(t, pushes(30)+strings.Repeat(emit, 29), slices.Collect(down(29, 0))...)
	// A way round costs 7, so the gas is enough for 428 of them.
	count := func(n int) string { return push(n) + dup(0) + emit + push(1) + sub + dup(0) + branch(-12) }
	wantOut(t, count(400), slices.Collect(down(400, 0))...)
	wantOut(t, count(428), slices.Collect(down(428, 0))...)
	wantRun(t, fitted(never(0, count(429)+stop)), 3000, api.Outcome{End: api.Empty, Steps: 1 + 428*6 + 2})
}

// down gives the numbers from one on, and ends ahead of another.
func down(from, end int) func(func(int) bool) {
	return func(yield func(int) bool) {
		for i := from; i > end && yield(i); i-- {
		}
	}
}
