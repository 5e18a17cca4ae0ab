// Package keel looks at code once, and then runs it unlooked at: see DOC.md.
package keel

import (
	"keel/api"
	"keel/check"
	"keel/machine"
	"keel/wire"
)

// Parse reads a container (P3).
func Parse(b string) (api.Container, api.Errno) { return wire.Read(b) }

// Bytes writes one (P3).
func Bytes(c api.Container) (string, api.Errno) { return wire.Write(c) }

// Check tells whether it holds together (P4).
func Check(c api.Container) (api.Errno, int, int) { return check.Container(c) }

// Run runs one (P5).
func Run(b string, gas int) (api.Outcome, api.Errno) {
	c, e := ready(b, gas)
	if e != api.OK {
		return api.Outcome{}, e
	}
	return machine.Run(c, gas), api.OK
}

// Trace tells the steps of a run (P6).
func Trace(b string, gas int, n int) ([]api.Step, api.Errno) {
	c, e := ready(b, gas)
	if e != api.OK {
		return nil, e
	}
	if n < 0 || n > api.MaxTrace {
		return nil, api.ErrCount
	}
	return machine.Trace(c, gas, n), api.OK
}

// ready gives a container that may run with this gas.
func ready(b string, gas int) (api.Container, api.Errno) {
	c, e := wire.Read(b)
	if e != api.OK {
		return api.Container{}, e
	}
	if e, _, _ := check.Container(c); e != api.OK {
		return api.Container{}, e
	}
	if gas < 0 || gas > api.MaxGas {
		return api.Container{}, api.ErrGas
	}
	return c, api.OK
}
