// Package wire turns containers into bytes and bytes into containers, and knows the limits of their numbers.
package wire

import "keel/api"

// Within tells whether each number of a container is within its limits.
func Within(c api.Container) bool {
	// The count goes first, so that a list of any length costs nothing.
	if !countFits(len(c.Sections)) {
		return false
	}
	for _, s := range c.Sections {
		if !sectionFits(s) {
			return false
		}
	}
	return dataFits(len(c.Data))
}

func sectionFits(s api.Section) bool {
	return inputsFit(s.Inputs) && outputsFit(s.Outputs) && maxFits(s.Max) && codeFits(len(s.Code))
}

func countFits(n int) bool { return 1 <= n && n <= api.MaxSections }

func inputsFit(n int) bool { return 0 <= n && n <= api.MaxInputs }

func outputsFit(n int) bool { return 0 <= n && n <= api.MaxOutputs || n == api.Never }

func maxFits(n int) bool { return 0 <= n && n <= api.MaxHeight }

func codeFits(n int) bool { return 1 <= n && n <= api.MaxCode }

func dataFits(n int) bool { return 0 <= n && n <= api.MaxData }
