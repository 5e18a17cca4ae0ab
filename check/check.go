// Package check looks whether the code of a container holds together.
package check

import (
	"keel/api"
	"keel/ops"
	"keel/wire"
)

// Container gives the first thing that is wrong, with its section and place.
func Container(c api.Container) (api.Errno, int, int) {
	if !wire.Within(c) {
		return api.ErrLimit, 0, 0
	}
	if c.Sections[0].Inputs != 0 || c.Sections[0].Outputs != api.Never {
		return api.ErrFirst, 0, 0
	}
	named := make([][]int, len(c.Sections))
	for i, s := range c.Sections {
		l := look{sections: c.Sections, own: s, heights: make([]span, len(s.Code))}
		if e, place := l.whole(); e != api.OK {
			return e, i, place
		}
		named[i] = l.named()
	}
	for i, used := range uses(named) {
		if !used {
			return api.ErrUnused, i, 0
		}
	}
	return api.OK, 0, 0
}

// uses follows the names from section 0 on, for a name counts only in a section that is used itself.
func uses(named [][]int) []bool {
	used := make([]bool, len(named))
	used[0] = true
	found := []int{0}
	for i := 0; i < len(found); i++ {
		for _, s := range named[found[i]] {
			if !used[s] {
				used[s] = true
				found = append(found, s)
			}
		}
	}
	return used
}

// named gives the sections that the code calls or goes to.
func (l *look) named() []int {
	var list []int
	for _, in := range l.code {
		if names(in) {
			list = append(list, in.Number)
		}
	}
	return list
}

func names(in ops.Instruction) bool { return in.Op == ops.Call || in.Op == ops.Goto }
