package machine

// stack has its top at its end.
type stack []uint16

func (s *stack) lay(v uint16) { *s = append(*s, v) }

func (s *stack) take() uint16 {
	last := len(*s) - 1
	v := (*s)[last]
	*s = (*s)[:last]
	return v
}

// takeTwo gives the upper one last, as the document writes them.
func (s *stack) takeTwo() (lower, upper uint16) {
	upper = s.take()
	return s.take(), upper
}

// under gives the place of the value above which n others stand.
func (s stack) under(n int) int { return len(s) - 1 - n }
