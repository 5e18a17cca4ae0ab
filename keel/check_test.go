package keel_test

import (
	"math"
	"slices"
	"strings"
	"testing"

	"keel/api"
	"keel/keel"
)

func TestCheckExamples(t *testing.T) {
	sum := push(2) + push(3) + add + emit + stop
	wantGood(t, never(2, sum))
	wantCheck(t, never(3, sum), api.ErrMax, 0, 0)
	wantCheck(t, never(1, push(2)+add+stop), api.ErrLow, 0, 3)
	wantCheck(t, never(1, push(2)), api.ErrEnd, 0, 0)
	wantCheck(t, never(0, "\x63"), api.ErrOp, 0, 0)
	wantCheck(t, never(0, "\x02\x00"), api.ErrCut, 0, 0)
	wantCheck(t, never(0, jump(1)+stop), api.ErrTarget, 0, 0)
	wantCheck(t, never(0, stop+stop), api.ErrReach, 0, 1)
	wantGood(t, never(1, push(1)+jump(-3)))
	wantCheck(t, never(1, push(1)+jump(-6)), api.ErrBack, 0, 3)
	wantGood(t, container("", section(0, 128, 1, push(5)+call(1)+emit+stop), section(1, 1, 2, dup(0)+mul+ret)))
	wantGood(t, container("", section(0, 128, 0, call(1)+stop), section(0, 0, 0, call(1)+ret)))
}

// ErrLimit stands where Bytes has it, ahead of all else, and never comes with a place.
func TestCheckLimit(t *testing.T) {
	for _, c := range []api.Container{
		{}, {Sections: []api.Section{}}, {Sections: make([]api.Section, 7)},
		never(41, stop), never(-1, stop), never(math.MaxInt, stop), never(0, ""), never(0, strings.Repeat(stop, 121)),
		container("", section(-1, 128, 0, stop)), container("", section(10, 128, 0, stop)),
		container("", section(0, 10, 0, stop)), container("", section(0, 127, 0, stop)), container("", section(0, 129, 0, stop)), container("", section(0, -1, 0, stop)),
		container(fill(61), section(0, 128, 0, stop)),
		container(fill(61), section(1, 0, 0, "\xff")),
		container("", section(0, 128, 0, stop+stop), section(0, 0, 0, "")),
		container("", section(0, 128, 0, "\xff"), section(0, 0, 41, ret)),
	} {
		wantBytesLimit(t, show(c), c)
		wantCheck(t, c, api.ErrLimit, 0, 0)
	}
}

func TestCheckAtLimits(t *testing.T) {
	wantGood(t, container(fill(60), section(0, 128, 0, stop)))
	wantGood(t, never(39, pushes(39)+pop+fail))
	wantGood(t, never(39, pushes(39)+jump(-3)))
	wantCheck(t, never(40, pushes(39)+dup(3)), api.ErrEnd, 0, 117)
	wantGood(t, never(40, pushes(38)+dup(3)+dup(38)+fail))
	// A greatest height above all limits is no good Max.
	wantCheck(t, never(40, pushes(20)+strings.Repeat(dup(0), 21)+stop), api.ErrMax, 0, 0)
	wantGood(t, never(40, pushes(20)+strings.Repeat(dup(0), 20)+stop))
	nine := section(9, 9, 9, ret)
	wantGood(t, container("", section(0, 128, 9, pushes(9)+call(5)+stop), nine, nine, nine, nine, section(9, 9, 9, call(1)+call(2)+call(3)+call(4)+ret)))
}

func TestCheckFirst(t *testing.T) {
	wantCheck(t, container("", section(1, 128, 1, stop)), api.ErrFirst, 0, 0)
	wantCheck(t, container("", section(9, 128, 9, stop)), api.ErrFirst, 0, 0)
	wantCheck(t, container("", section(0, 0, 0, ret)), api.ErrFirst, 0, 0)
	wantCheck(t, container("", section(0, 9, 0, "\xff")), api.ErrFirst, 0, 0)
	wantCheck(t, container("", section(1, 128, 0, stop+"\x02")), api.ErrFirst, 0, 0)
	// Of other sections neither is asked.
	wantGood(t, container("", section(0, 128, 1, push(0)+goOver(1)), section(1, 128, 1, stop)))
}

func TestCheckOps(t *testing.T) {
	for op := 21; op < 256; op++ {
		code := string([]byte{byte(op)})
		wantCheck(t, never(0, code), api.ErrOp, 0, 0)
		wantCheck(t, never(0, stop+code), api.ErrOp, 0, 1)
		wantCheck(t, never(0, stop+code+code), api.ErrOp, 0, 1)
		wantCheck(t, never(0, push(op)+dup(byte(op))+code+"\x02"), api.ErrOp, 0, 5)
		wantCheck(t, container("", section(0, 128, 0, stop), section(0, 0, 0, ret+code)), api.ErrOp, 1, 1)
	}
	// What belongs to an instruction is no op.
	wantGood(t, never(1, push(0xffff)+stop))
}

// Each instruction with something that belongs to it, cut at each length; whole, it ends just at the code's end.
func TestCheckCut(t *testing.T) {
	boxed := func(code string) api.Container {
		return container("", section(0, 128, 2, pushes(2)+code), section(2, 0, 2, pop+pop+ret))
	}
	for _, x := range []struct {
		code  string
		whole api.Errno
	}{
		{push(1), api.ErrEnd}, {dup(0), api.ErrEnd}, {swap(0), api.ErrEnd}, {jump(-3), api.OK}, {branch(-3), api.ErrEnd},
		{table(-4), api.ErrEnd}, {table(-6, -6), api.ErrEnd}, {table(-12, -12, -12, -12, -12), api.ErrEnd},
		{call(1), api.ErrEnd}, {goOver(0), api.OK},
	} {
		if x.whole == api.OK {
			wantCheck(t, boxed(x.code), api.ErrUnused, 1, 0)
		} else {
			wantCheck(t, boxed(x.code), x.whole, 0, 6)
		}
		for n := 1; n < len(x.code); n++ {
			wantCheck(t, boxed(x.code[:n]), api.ErrCut, 0, 6)
		}
	}
	wantCheck(t, never(0, stop+"\x02\x00"), api.ErrCut, 0, 1)
	wantCheck(t, never(0, "\x11\xff"+strings.Repeat("\x00", 118)), api.ErrCut, 0, 0)
	wantCheck(t, never(0, "\x11\x7f"+strings.Repeat("\x00", 118)), api.ErrCut, 0, 0)
}

// A Table that fills the greatest code, and one that would go one d beyond it.
func TestCheckLongTable(t *testing.T) {
	d := make([]int, 57)
	wantGood(t, never(1, push(1)+table(d...)+stop))
	wantCheck(t, never(1, push(1)+table(d[:56]...)+stop+stop), api.ErrReach, 0, 118)
	whole := table(make([]int, 59)...)
	wantCheck(t, never(0, whole), api.ErrTarget, 0, 0)
	wantCheck(t, never(0, whole[:119]), api.ErrCut, 0, 0)
	wantCheck(t, never(0, put(whole, 1, 59)), api.ErrCut, 0, 0)
	for i := range d {
		d[i] = 1
		wantCheck(t, never(1, push(1)+table(d...)+stop), api.ErrTarget, 0, 3)
		d[i] = 0
	}
}

// Every d, from each of the three that have one: a target is where an instruction begins, and nowhere else.
func TestCheckTargets(t *testing.T) {
	head := push(0x0303) + dup(3) + swap(3) + pop
	tail := push(0x0303) + stop + pop + dup(3)
	at := len(head)
	for _, one := range []func(d int) string{
		jump, branch,
		func(d int) string { return table(d) },
		func(d int) string { return table(d, 0, 0) },
		func(d int) string { return table(0, d, 0) },
		func(d int) string { return table(0, 0, d) },
	} {
		end := at + len(one(0))
		begins := []int{0, 3, 5, 7, at, end, end + 3, end + 4, end + 5}
		distances := []int{-32768, -32767, -257, -256, 255, 256, 257, 32766, 32767}
		for d := -130; d <= 130; d++ {
			distances = append(distances, d)
		}
		for _, d := range distances {
			c := never(0, head+one(d)+tail)
			if !slices.Contains(begins, end+d) {
				wantCheck(t, c, api.ErrTarget, 0, at)
			} else if e, _, _ := keel.Check(c); e == api.ErrTarget {
				t.Errorf("P4: Check(%s) = ErrTarget, but an instruction begins there", show(c))
			}
		}
	}
}

func TestCheckSections(t *testing.T) {
	wantCheck(t, never(0, call(0)+stop), api.ErrSection, 0, 0)
	wantGood(t, never(0, goOver(0)))
	for s := 1; s < 256; s++ {
		wantCheck(t, never(0, call(byte(s))+stop), api.ErrSection, 0, 0)
		wantCheck(t, never(0, stop+goOver(byte(s))), api.ErrSection, 0, 1)
	}
	back := section(0, 0, 0, ret)
	all := func(code string) api.Container {
		return container("", section(0, 128, 0, call(1)+call(2)+call(3)+call(4)+code+stop), back, back, back, back, section(0, 128, 0, stop))
	}
	wantCheck(t, all(""), api.ErrUnused, 5, 0)
	wantCheck(t, all(call(5)), api.ErrSection, 0, 8)
	wantCheck(t, all(call(6)), api.ErrSection, 0, 8)
	wantCheck(t, all(goOver(6)), api.ErrSection, 0, 8)
	wantCheck(t, all(goOver(5)), api.ErrReach, 0, 10)
	// The section that calls may return or not; the one that is called must.
	wantCheck(t, container("", section(0, 128, 0, goOver(1)), section(0, 128, 0, call(0)+stop)), api.ErrSection, 1, 0)
	wantCheck(t, container("", section(0, 128, 0, call(1)+stop), section(0, 0, 0, call(2)+ret), section(0, 128, 0, stop)), api.ErrSection, 1, 0)
}

func TestCheckReach(t *testing.T) {
	for _, last := range []string{stop, fail, jump(-3), goOver(0)} {
		wantCheck(t, never(0, last+stop), api.ErrReach, 0, len(last))
		wantCheck(t, never(1, last+push(1)+stop), api.ErrReach, 0, len(last))
	}
	wantCheck(t, container("", section(0, 128, 0, call(1)+stop), section(0, 0, 0, ret+ret)), api.ErrReach, 1, 1)
	wantCheck(t, never(0, jump(1)+stop+stop), api.ErrReach, 0, 3)
	// What leads there from behind comes too late.
	wantCheck(t, never(0, jump(3)+jump(0)+jump(-6)), api.ErrReach, 0, 3)
	wantGood(t, never(1, push(1)+branch(1)+stop+stop))
	wantGood(t, never(0, jump(0)+stop))
	wantGood(t, never(1, push(1)+table(1, 2, 3)+stop+stop+fail+stop))
	wantCheck(t, never(1, push(1)+table(1, 3, 3)+stop+stop+fail+stop), api.ErrReach, 0, 13)
}

// called is a container whose section 1 has the code; the sections 2, 3 and 4 take and bring 0 and 0, 3 and 1, 1 and 3, and are used.
func called(most int, code string) api.Container {
	first := section(0, 128, 3, pushes(3)+call(3)+call(4)+call(2)+goOver(1))
	return container("", first, section(0, 128, most, code), section(0, 0, 0, ret), section(3, 1, 3, pop+pop+ret), section(1, 3, 3, dup(0)+dup(0)+ret))
}

// Each op with just what it takes and more, and with one less; behind it stands just what it brings.
func TestCheckTakesAndBrings(t *testing.T) {
	for _, x := range []struct {
		code          string
		takes, brings int
	}{
		{push(7), 0, 1}, {pop, 1, 0}, {add, 2, 1}, {sub, 2, 1}, {mul, 2, 1}, {less, 2, 1}, {alike, 2, 1},
		{dup(0), 1, 2}, {dup(1), 2, 3}, {dup(7), 8, 9}, {swap(0), 2, 2}, {swap(1), 3, 3}, {swap(7), 9, 9},
		{load, 1, 1}, {store, 2, 0}, {data, 1, 1}, {emit, 1, 0}, {jump(0), 0, 0}, {branch(0), 1, 0}, {table(0), 1, 0}, {table(0, 0, 0), 1, 0},
		{call(2), 0, 0}, {call(3), 3, 1}, {call(4), 1, 3},
	} {
		for extra := range 3 {
			code := pushes(x.takes+extra) + x.code + strings.Repeat(pop, x.brings+extra)
			most := max(x.takes, x.brings) + extra
			wantGood(t, called(most, code+stop))
			wantCheck(t, called(most+1, code+stop), api.ErrMax, 1, 0)
			if most > 0 {
				wantCheck(t, called(most-1, code+stop), api.ErrMax, 1, 0)
			}
			wantCheck(t, called(most, code+pop+stop), api.ErrLow, 1, len(code))
		}
		if x.takes > 0 {
			wantCheck(t, called(0, pushes(x.takes-1)+x.code+stop), api.ErrLow, 1, 3*x.takes-3)
		}
	}
	for n := range 256 {
		wantCheck(t, never(0, pushes(min(n, 38))+dup(byte(n))+stop), api.ErrLow, 0, 3*min(n, 38))
		wantCheck(t, never(0, pushes(min(n+1, 38))+swap(byte(n))+stop), api.ErrLow, 0, 3*min(n+1, 38))
	}
}

// The inputs of a section stand there from its beginning on, and no more than these.
func TestCheckInputs(t *testing.T) {
	for n := range 10 {
		boxed := func(code string) api.Container {
			return container("", section(0, 128, 9, pushes(9)+goOver(1)), section(n, 128, n, code))
		}
		wantGood(t, boxed(strings.Repeat(pop, n)+stop))
		wantCheck(t, boxed(strings.Repeat(pop, n+1)+stop), api.ErrLow, 1, n)
		wantGood(t, container("", section(0, 128, n, pushes(n)+goOver(1)), section(n, 128, n, stop)))
		if n > 0 {
			wantCheck(t, container("", section(0, 128, n-1, pushes(n-1)+goOver(1)), section(n, 128, n, stop)), api.ErrLow, 0, 3*n-3)
		}
	}
}

func TestCheckReturn(t *testing.T) {
	for n := range 10 {
		for height := range 12 {
			c := container("", section(0, 128, n, call(1)+stop), section(0, n, height, pushes(height)+ret))
			switch {
			case height < n:
				wantCheck(t, c, api.ErrLow, 1, 3*height)
			case height > n:
				wantCheck(t, c, api.ErrReturn, 1, 3*height)
			default:
				wantGood(t, c)
			}
		}
	}
	for height := range 3 {
		wantCheck(t, never(height, pushes(height)+ret), api.ErrReturn, 0, 3*height)
	}
	// Never is no height to return with, though the stack can stand as high as that number.
	nine := section(0, 9, 9, pushes(9)+ret)
	high := strings.Repeat(call(1), 14)
	wantCheck(t, container("", section(0, 128, 40, high+pushes(2)+ret), nine), api.ErrReturn, 0, 34)
	wantCheck(t, container("", section(0, 128, 40, high+goOver(2)), nine, section(0, 2, 2, pushes(2)+ret)), api.ErrReturn, 0, 28)
	// Two ways come together with 0 and 1: neither the least nor the greatest alone makes the Return good.
	wantCheck(t, container("", section(0, 128, 0, call(1)+stop), section(0, 0, 1, ways+ret)), api.ErrReturn, 1, 9)
	wantCheck(t, container("", section(0, 128, 1, call(1)+stop), section(0, 1, 2, ways+push(1)+pop+ret)), api.ErrLow, 1, 13)
	wantCheck(t, container("", section(0, 128, 1, call(1)+stop), section(0, 1, 2, ways+push(1)+ret)), api.ErrReturn, 1, 12)
}

// A Goto leaves for a section that returns: just what that takes, and what of this section's outputs it does not bring.
func TestCheckGotoReturns(t *testing.T) {
	for own := range 4 {
		for inputs := range 4 {
			for outputs := range 4 {
				for height := range 8 {
					// Section 2 makes its outputs of its inputs, by way of none.
					c := container("", section(0, 128, max(own, inputs, outputs), call(1)+strings.Repeat(pop, own)+pushes(inputs)+call(2)+stop),
						section(0, own, height, pushes(height)+goOver(2)),
						section(inputs, outputs, max(inputs, outputs), strings.Repeat(pop, inputs)+pushes(outputs)+ret))
					switch {
					case height < inputs:
						wantCheck(t, c, api.ErrLow, 1, 3*height)
					case own < outputs || height != own+inputs-outputs:
						wantCheck(t, c, api.ErrReturn, 1, 3*height)
					default:
						wantGood(t, c)
					}
				}
			}
		}
	}
	back := section(0, 0, 0, ret)
	wantCheck(t, container("", section(0, 128, 0, goOver(1)), back), api.ErrReturn, 0, 0)
	wantGood(t, container("", section(0, 128, 0, call(1)+stop), section(0, 0, 0, goOver(2)), back))
	// With a spread of heights neither the least nor the greatest alone makes it good.
	wantCheck(t, container("", section(0, 128, 0, call(1)+stop), section(0, 0, 1, ways+goOver(2)), back), api.ErrReturn, 1, 9)
	wantCheck(t, container("", section(0, 128, 1, call(1)+stop), section(0, 1, 1, ways+goOver(2)), back), api.ErrReturn, 1, 9)
}

// A Goto of a section that does not return asks for its inputs only, whatever stands below these and whatever this section brings.
func TestCheckGotoNever(t *testing.T) {
	for inputs := range 4 {
		for height := range 8 {
			end := section(inputs, 128, inputs, stop)
			one := container("", section(0, 128, height, pushes(height)+goOver(1)), end)
			other := container("", section(0, 128, 2, call(1)+stop), section(0, 2, max(height+1, 2), pushes(height)+push(1)+branch(2)+goOver(2)+endAt(height, 2)+ret), end)
			if height < inputs {
				wantCheck(t, one, api.ErrLow, 0, 3*height)
				wantCheck(t, other, api.ErrLow, 1, 3*height+6)
			} else {
				wantGood(t, one)
				wantGood(t, other)
			}
		}
	}
	// Both heights of a spread are good.
	wantGood(t, container("", section(0, 128, 2, ways+push(1)+goOver(1)), section(1, 128, 1, stop)))
}

// endAt brings a stack from one height to another.
func endAt(from, to int) string {
	return strings.Repeat(pop, max(from-to, 0)) + pushes(max(to-from, 0))
}

func TestCheckEnd(t *testing.T) {
	for _, code := range []string{push(1), pop, add, sub, mul, less, alike, dup(0), swap(0), load, store, data, emit, call(1)} {
		wantCheck(t, container("", section(0, 128, 2, pushes(2)+code), section(0, 0, 0, ret)), api.ErrEnd, 0, 6)
	}
	wantCheck(t, container("", section(0, 128, 0, call(1)+stop), section(0, 0, 1, push(1)+pop)), api.ErrEnd, 1, 3)
	wantCheck(t, never(1, push(1)+branch(-6)), api.ErrEnd, 0, 3)
	wantCheck(t, never(1, push(1)+table(-7)), api.ErrEnd, 0, 3)
	for _, last := range []string{stop, fail, jump(-3), goOver(0)} {
		wantGood(t, never(0, last))
	}
	// A greatest code is ended by its last byte too.
	wantGood(t, never(1, strings.Repeat(push(1)+pop, 29)+push(1)+stop))
	wantCheck(t, never(2, strings.Repeat(push(1)+pop, 29)+push(1)+pop), api.ErrEnd, 0, 119)
}
