package keel_test

import (
	"slices"
	"strings"
	"testing"

	"keel/api"
)

func TestRunSums(t *testing.T) {
	for _, x := range []struct {
		op         string
		a, b, want int
	}{
		{add, 2, 3, 5}, {add, 0, 0, 0}, {add, 65535, 0, 65535}, {add, 65535, 1, 0}, {add, 1, 65535, 0}, {add, 65535, 65535, 65534}, {add, 32768, 32768, 0}, {add, 255, 1, 256}, {add, 32767, 1, 32768},
		{sub, 5, 3, 2}, {sub, 3, 5, 65534}, {sub, 0, 0, 0}, {sub, 0, 1, 65535}, {sub, 0, 65535, 1}, {sub, 65535, 65535, 0}, {sub, 65535, 0, 65535}, {sub, 256, 1, 255}, {sub, 0, 32768, 32768},
		{mul, 6, 7, 42}, {mul, 0, 65535, 0}, {mul, 1, 65535, 65535}, {mul, 65535, 65535, 1}, {mul, 256, 256, 0}, {mul, 255, 257, 65535}, {mul, 300, 300, 24464}, {mul, 32768, 2, 0}, {mul, 32768, 3, 32768}, {mul, 46341, 46341, 4633},
		{less, 2, 3, 1}, {less, 3, 2, 0}, {less, 3, 3, 0}, {less, 0, 65535, 1}, {less, 65535, 0, 0}, {less, 32767, 32768, 1}, {less, 32768, 32767, 0}, {less, 0, 0, 0}, {less, 255, 256, 1}, {less, 65534, 65535, 1},
		{alike, 3, 3, 1}, {alike, 3, 4, 0}, {alike, 4, 3, 0}, {alike, 0, 0, 1}, {alike, 65535, 65535, 1}, {alike, 0, 256, 0}, {alike, 1, 257, 0}, {alike, 32768, 0, 0},
	} {
		wantOut(t, push(x.a)+push(x.b)+x.op+emit, x.want)
		// What stands below stays.
		wantOut(t, push(9)+push(x.a)+push(x.b)+x.op+emit+emit, x.want, 9)
	}
}

func TestRunAnySums(t *testing.T) {
	r := chance()
	one := map[bool]int{true: 1}
	for range 1000 {
		a, b := chanceValue(r), chanceValue(r)
		code := ""
		for _, op := range []string{add, sub, mul, less, alike} {
			code += push(a) + push(b) + op + emit
		}
		wantOut(t, code, (a+b)%65536, (a-b+65536)%65536, a*b%65536, one[a < b], one[a == b])
	}
}

func TestRunPop(t *testing.T) {
	wantOut(t, push(1)+push(2)+pop+emit, 1)
	wantOut(t, push(1)+push(2)+push(3)+pop+emit+emit, 2, 1)
	wantOut(t, push(1)+push(2)+pop+push(3)+emit+emit, 3, 1)
}

// whole is what a stack of these values emits, from its top on.
func whole(values []int) []int {
	values = slices.Clone(values)
	slices.Reverse(values)
	return values
}

func TestRunDup(t *testing.T) {
	for height := 1; height < 24; height++ {
		for n := range height {
			values := slices.Collect(upTo(height))
			want := append(slices.Clone(values), values[height-1-n])
			wantOut(t, pushes(height)+dup(byte(n))+strings.Repeat(emit, height+1), whole(want)...)
		}
	}
	// As far as a stack of MaxHeight has it.
	far := push(7) + push(8) + strings.Repeat(dup(0), 37)
	wantOut(t, far+dup(38)+emit, 7)
	wantOut(t, far+dup(37)+emit, 8)
}

func TestRunSwap(t *testing.T) {
	for height := 2; height < 24; height++ {
		for n := range height - 1 {
			want := slices.Collect(upTo(height))
			want[height-1], want[height-2-n] = want[height-2-n], want[height-1]
			wantOut(t, pushes(height)+swap(byte(n))+strings.Repeat(emit, height), whole(want)...)
		}
	}
	far := push(7) + push(8) + strings.Repeat(dup(0), 38)
	wantOut(t, far+swap(38)+emit, 7)
	wantOut(t, far+swap(37)+emit, 8)
	wantOut(t, push(7)+push(8)+strings.Repeat(dup(0), 28)+swap(28)+dup(29)+emit+emit, 8, 7)
}

// upTo gives the values of pushes.
func upTo(n int) func(func(int) bool) {
	return func(yield func(int) bool) {
		for i := 0; i < n && yield(i); i++ {
		}
	}
}

func TestRunMemory(t *testing.T) {
	keep := func(v, a int) string { return push(v) + push(a) + store }
	tell := func(a int) string { return push(a) + load + emit }
	for a := range 16 {
		wantOut(t, tell(a), 0)
		wantOut(t, keep(65535, a)+tell(a), 65535)
		wantOut(t, keep(5, a)+keep(6, a)+tell(a)+tell(a), 6, 6)
		wantOut(t, keep(5, a)+tell((a+1)%16)+tell((a+15)%16)+tell(a), 0, 0, 5)
		wantOut(t, push(9)+keep(5, a)+emit, 9)
	}
	wantOut(t, keep(1, 0)+keep(2, 15)+keep(3, 7)+tell(0)+tell(7)+tell(15), 1, 3, 2)
	// v stands below a.
	wantOut(t, keep(3, 4)+tell(4)+tell(3), 3, 0)
	// Sections have one memory.
	wantOutOf(t, fitted(container("", section(0, 128, 0, keep(4, 2)+call(1)+tell(3)+stop), section(0, 0, 0, tell(2)+keep(8, 3)+ret))), 4, 8)
}

func TestRunWide(t *testing.T) {
	for _, a := range []int{16, 17, 31, 32, 255, 256, 32768, 65535} {
		wantEnd(t, never(1, push(a)+load+stop), api.Wide, 2, 2)
		wantEnd(t, never(2, push(1)+push(a)+store+stop), api.Wide, 3, 4)
		// With just enough gas, and with less, for which Empty goes ahead.
		wantRun(t, never(1, push(a)+load+stop), 2, api.Outcome{End: api.Wide, Steps: 2})
		wantRun(t, never(1, push(a)+load+stop), 1, api.Outcome{End: api.Empty, Steps: 1})
		wantRun(t, never(2, push(1)+push(a)+store+stop), 4, api.Outcome{End: api.Wide, Steps: 3})
		wantRun(t, never(2, push(1)+push(a)+store+stop), 3, api.Outcome{End: api.Empty, Gas: 1, Steps: 2})
	}
	// It is the address that counts, not the value.
	wantOut(t, push(16)+push(15)+store+push(15)+load+emit, 16)
}

func TestRunData(t *testing.T) {
	for _, x := range []struct {
		data    string
		a, want int
	}{
		{"", 0, 0}, {"", 65535, 0}, {"a", 0, 'a'}, {"a", 1, 0}, {"abc", 1, 'b'}, {"abc", 2, 'c'}, {"abc", 3, 0}, {"abc", 258, 0}, {"abc", 65535, 0}, {"\xff\x00\x80", 0, 255}, {"\xff\x00\x80", 1, 0}, {"\xff\x00\x80", 2, 128},
		{fill(59) + "z", 58, 254}, {fill(59) + "z", 59, 'z'}, {fill(59) + "z", 60, 0}, {fill(60), 61, 0}, {"\u00fc", 0, 0xc3}, {"\u00fc", 1, 0xbc},
	} {
		wantOutOf(t, container(x.data, section(0, 128, 1, push(x.a)+"\x0d"+emit+stop)), x.want)
	}
	wantOutOf(t, container("pq", section(0, 128, 2, push(9)+push(1)+"\x0d"+emit+emit+stop)), 'q', 9)
}

func TestRunJump(t *testing.T) {
	wantOut(t, push(1)+emit+jump(0)+push(2)+emit, 1, 2)
	// The If leads behind the Jump, which leads behind the first Emit.
	wantOut(t, push(0)+branch(3)+jump(4)+push(1)+emit+push(2)+emit, 2)
	wantOut(t, push(5)+branch(3)+jump(4)+push(1)+emit+push(2)+emit, 1, 2)
	wantRun(t, never(0, jump(-3)), 9, api.Outcome{End: api.Empty, Steps: 9})
	wantRun(t, never(1, push(1)+jump(-3)), 9, api.Outcome{End: api.Empty, Steps: 9})
	wantOutOf(t, never(2, push(3)+dup(0)+branch(1)+stop+dup(0)+emit+push(1)+sub+jump(-16)), 3, 2, 1)
}

func TestRunIf(t *testing.T) {
	for _, a := range []int{1, 2, 255, 256, 32768, 65535} {
		wantRun(t, never(1, push(a)+branch(1)+fail+stop), 9, api.Outcome{End: api.Stop, Gas: 6, Steps: 3})
	}
	wantRun(t, never(1, push(0)+branch(1)+fail+stop), 9, api.Outcome{End: api.Fail, Gas: 6, Steps: 3})
	wantOut(t, push(9)+push(0)+branch(4)+push(8)+emit+emit, 8, 9)
	wantOut(t, push(9)+push(1)+branch(4)+push(8)+emit+emit, 9)
	// Over nearly all of a code, and back over it.
	wantOut(t, push(1)+branch(113)+strings.Repeat(push(1)+pop, 28)+fail)
	wantOut(t, push(2)+push(1)+sub+strings.Repeat(push(1)+pop, 25)+dup(0)+branch(-109)+emit, 0)
	// Back, until it is 0.
	wantOut(t, push(3)+dup(0)+emit+push(1)+sub+dup(0)+branch(-12)+emit, 3, 2, 1, 0)
}

func TestRunTable(t *testing.T) {
	// Each case emits its number and goes to the end; what follows the Table emits 99.
	for k := range 6 {
		var d []int
		cases := push(99) + emit + jump(7*(k+1))
		for i := range k + 1 {
			d = append(d, 7+7*i)
			cases += push(i) + emit + jump(7*(k-i))
		}
		for a := range k + 1 {
			wantOut(t, push(a)+table(d...)+cases, a)
		}
		for _, a := range []int{k + 1, k + 2, 255, 256, 256 + k, 32768, 65535} {
			wantOut(t, push(a)+table(d...)+cases, 99)
		}
	}
	// Several d may lead to one place, and one to where it goes on anyway.
	for a, want := range [][]int{{1, 2}, {2}, {1, 2}, {1, 2}} {
		wantOut(t, push(a)+table(0, 4, 0)+push(1)+emit+push(2)+emit, want...)
	}
	wantOut(t, push(9)+push(1)+table(0, 0)+emit, 9)
	// A long one: each but the last goes on behind it.
	long := append(slices.Repeat([]int{0}, 50), 4)
	for _, a := range []int{0, 49, 51, 255, 306} {
		wantOut(t, push(a)+table(long...)+push(1)+emit, 1)
	}
	wantOut(t, push(50)+table(long...)+push(1)+emit)
	// Back: the values count down 2, 1, 0, and 0 goes on.
	wantOut(t, push(3)+push(1)+sub+dup(0)+emit+dup(0)+table(0, -17, -17)+pop, 2, 1, 0)
}
