package wire

import "keel/api"

// Write writes the bytes that Read reads.
func Write(c api.Container) (string, api.Errno) {
	if !Within(c) {
		return "", api.ErrLimit
	}
	b := append([]byte(magic), byte(len(c.Sections)))
	for _, s := range c.Sections {
		b = append(b, byte(s.Inputs), byte(s.Outputs), byte(s.Max))
		b = appendTwo(b, len(s.Code))
	}
	b = appendTwo(b, len(c.Data))
	for _, s := range c.Sections {
		b = append(b, s.Code...)
	}
	b = append(b, c.Data...)
	return string(b), api.OK
}

func appendTwo(b []byte, n int) []byte {
	return append(b, byte(n>>8), byte(n))
}
