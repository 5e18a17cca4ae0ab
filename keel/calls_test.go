package keel_test

import (
	"math"
	"math/rand"
	"runtime"
	"slices"
	"strings"
	"sync"
	"testing"
	"time"
	"unsafe"

	"keel/api"
	"keel/keel"
)

func oddTexts() []string {
	texts := []string{"", "K", "K\x01", "K\x01\x01", "\x00", "\xff\xff\xff", "\u00fc", fill(1 << 20), "K\x01" + fill(1<<20), "K\x01\x06" + strings.Repeat("\x00", 1<<20), pair, example, pair + pair}
	r := chance()
	for range 3000 {
		texts = append(texts, chanceText(r, r.Intn(40)), "K\x01"+chanceText(r, r.Intn(40)))
		b, _ := keel.Bytes(chanceContainer(r))
		texts = append(texts, b[:r.Intn(len(b)+1)], put(b, r.Intn(len(b)), byte(r.Intn(256))))
	}
	for range 1000 {
		b, _ := keel.Bytes(chanceProgram(r))
		texts = append(texts, b, put(b, r.Intn(len(b)), byte(r.Intn(256)>>r.Intn(8))))
	}
	return texts
}

func oddNumbers() []int {
	return []int{math.MinInt, -1, 0, 1, 400, 401, 3000, 3001, 1 << 40, math.MaxInt}
}

func oddContainers() []api.Container {
	list := []api.Container{{}, {Sections: []api.Section{}}, {Sections: make([]api.Section, 6)}, {Sections: make([]api.Section, 1<<20)}, {Data: fill(1 << 20)}, container(fill(61), section(0, 128, 0, "\x00")), container("", section(0, 128, 0, fill(1<<20))), exampleContainer(), pairContainer()}
	r := chance()
	for range 1000 {
		c := chanceContainer(r)
		list = append(list, c)
		d := container(c.Data, slices.Clone(c.Sections)...)
		s := &d.Sections[r.Intn(len(d.Sections))]
		wild := oddNumbers()
		s.Inputs, s.Outputs, s.Max = wild[r.Intn(len(wild))], wild[r.Intn(len(wild))], wild[r.Intn(len(wild))]
		list = append(list, d, chanceProgram(r), spoilt(r, chanceProgram(r)))
	}
	return list
}

// spoilt changes one byte of one code, or cuts it there.
func spoilt(r *rand.Rand, c api.Container) api.Container {
	s := &c.Sections[r.Intn(len(c.Sections))]
	at := r.Intn(len(s.Code))
	if r.Intn(2) == 0 {
		s.Code = s.Code[:at]
	} else {
		s.Code = put(s.Code, at, byte(r.Intn(256)>>r.Intn(8)))
	}
	return c
}

// P1: an error comes with nothing else, and a panic would end the test.
func TestNoPanicOnTexts(t *testing.T) {
	numbers := oddNumbers()
	for at, b := range oddTexts() {
		if c, e := keel.Parse(b); e != api.OK && !empty(c) {
			t.Errorf("P1: Parse(%.80q) = %s with error %d", b, show(c), e)
		}
		for i, gas := range numbers {
			if o, e := keel.Run(b, gas); e != api.OK && !noOutcome(o) {
				t.Errorf("P1: Run(%.80q, %d) = %+v with error %d", b, gas, o, e)
			}
			n := numbers[(i+at)%len(numbers)]
			if l, e := keel.Trace(b, gas, n); e != api.OK && len(l) != 0 {
				t.Errorf("P1: Trace(%.80q, %d, %d) = %+v with error %d", b, gas, n, l, e)
			}
		}
	}
}

func TestNoPanicOnContainers(t *testing.T) {
	for _, c := range oddContainers() {
		b, limit := keel.Bytes(c)
		if limit != api.OK && b != "" {
			t.Errorf("P1: Bytes = %.80q with error %d", b, limit)
		}
		e, s, place := keel.Check(c)
		if (e == api.ErrLimit) != (limit == api.ErrLimit) {
			t.Errorf("P4: Check(%s) = %d, but Bytes %d", show(c), e, limit)
		}
		if (e == api.OK || e == api.ErrLimit) && (s != 0 || place != 0) {
			t.Errorf("P4: Check(%s) = %d, %d, %d", show(c), e, s, place)
		}
		if limit == api.OK && (s < 0 || s >= len(c.Sections) || place < 0 || place >= len(c.Sections[s].Code)) {
			t.Errorf("P4: Check(%s) = %d, %d, %d, which is no place of it", show(c), e, s, place)
		}
	}
}

// P2: neither the sections nor the room behind them change, whether the call has an error or not.
func TestNothingIsWrittenInto(t *testing.T) {
	for _, c := range oddContainers() {
		if len(c.Sections) > 10 {
			continue
		}
		room := make([]api.Section, len(c.Sections)+5)
		for i := range room {
			room[i] = section(-i, i, 7*i, "spare")
		}
		copy(room, c.Sections)
		before := slices.Clone(room)
		given := api.Container{Sections: room[:len(c.Sections)], Data: c.Data}
		keel.Bytes(given)
		keel.Check(given)
		if !slices.Equal(room, before) {
			t.Fatalf("P2: a call wrote into %s: now %s", show(container("", before...)), show(container("", room...)))
		}
	}
}

func TestListsAreNew(t *testing.T) {
	first, _ := keel.Parse(pair)
	second, _ := keel.Parse(pair)
	all := first.Sections[:cap(first.Sections)]
	for i := range all {
		all[i] = section(-1, -1, -1, "gone")
	}
	if !same(second, pairContainer()) {
		t.Errorf("P2: two answers of Parse share their sections: %s", show(second))
	}
	wantParse(t, pair, pairContainer())

	given := pairContainer()
	b, _ := keel.Bytes(given)
	given.Sections[0] = section(9, 9, 9, "other")
	if b != pair {
		t.Errorf("P2: the bytes changed with the container: %q", b)
	}
}

func TestListsOfRunsAreNew(t *testing.T) {
	o, _ := keel.Run(example, 6)
	l, _ := keel.Trace(example, 6, 400)
	for i := range o.Out[:cap(o.Out)] {
		o.Out[:cap(o.Out)][i] = -1
	}
	for i := range l[:cap(l)] {
		l[:cap(l)][i] = api.Step{Section: -1, Place: -1, Height: -1}
	}
	wantRun(t, exampleContainer(), 6, api.Outcome{Out: []int{5}, Steps: 5})
	wantTrace(t, exampleContainer(), 6, steps([3]int{0, 0, 0}, [3]int{0, 3, 1}, [3]int{0, 6, 2}, [3]int{0, 7, 1}, [3]int{0, 8, 0}))
}

// P1: whatever a trace wants of its run, that has ended with it.
func TestTracesEndAll(t *testing.T) {
	before := runtime.NumGoroutine()
	loop := written(t, never(0, jump(-3)))
	for n := range 401 {
		for _, b := range []string{loop, example, "", pair} {
			keel.Trace(b, 3000, n)
			keel.Trace(b, n-1, 1)
			keel.Trace(b, 3001, n)
			keel.Trace(b, n, -1)
		}
	}
	// The last one may have closed its channel, and still be on its way out.
	for range 1000 {
		if runtime.NumGoroutine() <= before {
			return
		}
		time.Sleep(time.Millisecond)
	}
	t.Errorf("P1: %d goroutines ahead of the traces, %d behind them", before, runtime.NumGoroutine())
}

// A short code must not keep hold of the text that it was read from, nor bytes of a code.
func TestTextsAreNew(t *testing.T) {
	c, _ := keel.Parse(pair)
	for _, s := range []string{c.Sections[0].Code, c.Sections[1].Code, c.Data} {
		if within(s, pair) {
			t.Errorf("P2: %q shares memory with what Parse was given", s)
		}
	}
	long := container(fill(60), section(0, 128, 0, fill(120)))
	b, _ := keel.Bytes(long)
	if within(long.Data, b) || within(long.Sections[0].Code, b) {
		t.Errorf("P2: Bytes shares memory with what it was given")
	}
}

func within(part, whole string) bool {
	start := uintptr(unsafe.Pointer(unsafe.StringData(whole)))
	at := uintptr(unsafe.Pointer(unsafe.StringData(part)))
	return start <= at && at < start+uintptr(len(whole))
}

// P2: the same again, with other calls in between and beside it.
func TestSameAnswers(t *testing.T) {
	texts, boxes := oddTexts(), oddContainers()
	type parsed struct {
		c api.Container
		e api.Errno
	}
	type wrote struct {
		b string
		e api.Errno
	}
	type looked struct {
		e        api.Errno
		s, place int
	}
	type ran struct {
		o    api.Outcome
		l    []api.Step
		e, f api.Errno
	}
	gas := func(i int) int { return i * 7 % 3000 }
	reads, writes, looks, runs := make([]parsed, len(texts)), make([]wrote, len(boxes)), make([]looked, len(boxes)), make([]ran, len(texts))
	for i, b := range texts {
		reads[i].c, reads[i].e = keel.Parse(b)
		runs[i].o, runs[i].e = keel.Run(b, gas(i))
		runs[i].l, runs[i].f = keel.Trace(b, gas(i), i%401)
	}
	for i, c := range boxes {
		writes[i].b, writes[i].e = keel.Bytes(c)
		looks[i].e, looks[i].s, looks[i].place = keel.Check(c)
	}
	var wait sync.WaitGroup
	for range 4 {
		wait.Go(func() {
			for i, b := range slices.Backward(texts) {
				if c, e := keel.Parse(strings.Clone(b)); e != reads[i].e || !same(c, reads[i].c) {
					t.Errorf("P2: Parse(%.80q) = %s, %d, before: %s, %d", b, show(c), e, show(reads[i].c), reads[i].e)
				}
				if o, e := keel.Run(b, gas(i)); e != runs[i].e || !sameOutcome(o, runs[i].o) {
					t.Errorf("P2: Run(%.80q, %d) = %+v, %d, before: %+v", b, gas(i), o, e, runs[i])
				}
				if l, f := keel.Trace(b, gas(i), i%401); f != runs[i].f || !slices.Equal(l, runs[i].l) {
					t.Errorf("P2: Trace(%.80q, %d, %d) = %v, %d, before: %+v", b, gas(i), i%401, l, f, runs[i])
				}
			}
			for i, c := range slices.Backward(boxes) {
				copied := container(strings.Clone(c.Data), slices.Clone(c.Sections)...)
				if b, e := keel.Bytes(copied); e != writes[i].e || b != writes[i].b {
					t.Errorf("P2: Bytes = %.80q, %d, before: %.80q, %d", b, e, writes[i].b, writes[i].e)
				}
				if e, s, place := keel.Check(copied); (looked{e, s, place}) != looks[i] {
					t.Errorf("P2: Check(%s) = %d, %d, %d, before: %v", show(c), e, s, place, looks[i])
				}
			}
		})
	}
	wait.Wait()
}
