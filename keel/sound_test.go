package keel_test

import (
	"math/rand"
	"slices"
	"strings"
	"testing"

	"keel/api"
	"keel/keel"
)

// chanceProgram gives a container that may well hold together: on its straight way the code takes no more than there is, and what it names is there.
func chanceProgram(r *rand.Rand) api.Container {
	c := api.Container{Sections: make([]api.Section, 1+r.Intn(3)), Data: chanceText(r, r.Intn(5))}
	for i := range c.Sections {
		c.Sections[i] = section(r.Intn(3), r.Intn(3), 0, "")
		if i == 0 || r.Intn(3) == 0 {
			c.Sections[i].Outputs = 128
		}
	}
	c.Sections[0].Inputs = 0
	for i, s := range c.Sections {
		c.Sections[i].Code = chanceCode(r, c.Sections, s)
	}
	return fitted(c)
}

// fitted gives the container with the greatest heights as its code has them: they are found by trying.
func fitted(c api.Container) api.Container {
	for range 240 {
		e, s, _ := keel.Check(c)
		if e != api.ErrMax || c.Sections[s].Max >= 40 {
			break
		}
		c.Sections[s].Max++
	}
	return c
}

func chanceCode(r *rand.Rand, sections []api.Section, own api.Section) string {
	var parts []string
	height := own.Inputs
	for range r.Intn(12) {
		one := chanceInstruction(r, sections)
		takes, brings := effect(one, sections, own)
		if takes > height {
			one, takes, brings = push(chanceValue(r)), 0, 1
		}
		parts = append(parts, one)
		height += brings - takes
	}
	return aimed(r, append(parts, chanceEnd(r, sections, own, height)...))
}

func chanceInstruction(r *rand.Rand, sections []api.Section) string {
	n, s := byte(r.Intn(2)), byte(r.Intn(len(sections)))
	list := []string{push(chanceValue(r)), push(1), pop, add, sub, mul, less, alike, dup(n), swap(n), load, store, data, emit, branch(0), branch(0), branch(0), jump(0), table(0, 0)}
	if sections[s].Outputs != 128 {
		list = append(list, call(s), call(s), call(s))
	}
	return list[r.Intn(len(list))]
}

// chanceValue gives small values, those at edges, and any.
func chanceValue(r *rand.Rand) int {
	list := []int{0, 0, 1, 1, 2, 3, 15, 16, 255, 256, 32768, 65535, r.Intn(65536)}
	return list[r.Intn(len(list))]
}

func chanceEnd(r *rand.Rand, sections []api.Section, own api.Section, height int) []string {
	s := byte(r.Intn(len(sections)))
	if own.Outputs == 128 {
		return []string{[]string{stop, fail, goOver(s), jump(0)}[r.Intn(4)]}
	}
	last, want := ret, own.Outputs
	if next := sections[s]; next.Outputs <= own.Outputs && r.Intn(2) == 0 {
		last, want = goOver(s), own.Outputs+next.Inputs-next.Outputs
	}
	parts := slices.Repeat([]string{pop}, max(height-want, 0))
	return append(append(parts, slices.Repeat([]string{push(0)}, max(want-height, 0))...), last)
}

// aimed gives the code whose parts these are, each d leading to one of them.
func aimed(r *rand.Rand, parts []string) string {
	var begins []int
	size := 0
	for _, one := range parts {
		begins = append(begins, size)
		size += len(one)
	}
	for i, one := range parts {
		end := begins[i] + len(one)
		d := func() []byte { return []byte(two(begins[r.Intn(len(begins))] - end)) }
		switch one[0] {
		case 15, 16:
			parts[i] = put(one, 1, d()...)
		case 17:
			parts[i] = put(put(one, 2, d()...), 4, d()...)
		}
	}
	return strings.Join(parts, "")
}

// effect is the document's column of what an instruction takes and brings.
func effect(code string, sections []api.Section, own api.Section) (takes, brings int) {
	n := int((code + "\x00")[1])
	switch code[0] {
	case 2:
		return 0, 1
	case 3, 14, 16, 17:
		return 1, 0
	case 4, 5, 6, 7, 8:
		return 2, 1
	case 9:
		return n + 1, n + 2
	case 10:
		return n + 2, n + 2
	case 11, 13:
		return 1, 1
	case 12:
		return 2, 0
	case 18:
		return sections[n].Inputs, sections[n].Outputs
	case 19:
		return own.Outputs, 0
	case 20:
		return sections[n].Inputs, 0
	}
	return 0, 0
}

// next gives the places at which the code can go on behind an instruction.
func next(code string, place int) []int {
	d := func(at int) int { return int(int16(uint16(code[at])<<8 | uint16(code[at+1]))) }
	switch code[place] {
	case 0, 1, 19, 20:
		return nil
	case 2:
		return []int{place + 3}
	case 9, 10, 18:
		return []int{place + 2}
	case 15:
		return []int{place + 3 + d(place+1)}
	case 16:
		return []int{place + 3, place + 3 + d(place+1)}
	case 17:
		return []int{place + 6, place + 6 + d(place+2), place + 6 + d(place+4)}
	}
	return []int{place + 1}
}

// state is a place, and a height with which it is reached.
type state struct{ place, height int }

// explore goes all ways through a section, one by one, and tells what is wrong on any of them.
func explore(sections []api.Section, own api.Section) string {
	todo := []state{{0, own.Inputs}}
	greatest := 0
	for i := 0; i < len(todo); i++ {
		at := todo[i]
		if wrong := wrongAt(sections, own, at); wrong != "" {
			return wrong
		}
		greatest = max(greatest, at.height)
		takes, brings := effect(own.Code[at.place:], sections, own)
		for _, place := range next(own.Code, at.place) {
			if to := (state{place, at.height - takes + brings}); !slices.Contains(todo, to) {
				todo = append(todo, to)
			}
		}
	}
	if greatest != own.Max {
		return "never stands at its Max"
	}
	return ""
}

func wrongAt(sections []api.Section, own api.Section, at state) string {
	if at.place < 0 || at.place >= len(own.Code) {
		return "goes on outside of its code"
	}
	code := own.Code[at.place:]
	takes, _ := effect(code, sections, own)
	if at.height < takes {
		return "takes from an empty stack"
	}
	if at.height > own.Max {
		return "stands above its Max"
	}
	if code[0] == 19 && at.height != own.Outputs {
		return "returns with another height"
	}
	if code[0] == 20 {
		to := sections[code[1]]
		if to.Outputs != 128 && at.height-to.Inputs+to.Outputs != own.Outputs {
			return "returns by another section with another height"
		}
	}
	return ""
}

// What is found good never goes wrong, whichever way it goes.
func TestCheckedCodeIsSound(t *testing.T) {
	r := chance()
	good := 0
	for range 10000 {
		c := chanceProgram(r)
		if e, _, _ := keel.Check(c); e != api.OK {
			continue
		}
		good++
		for i, s := range c.Sections {
			if wrong := explore(c.Sections, s); wrong != "" {
				t.Fatalf("P4: Check(%s) = OK, but section %d %s", show(c), i, wrong)
			}
		}
	}
	if good < 1000 {
		t.Errorf("only %d containers were good", good)
	}
}
