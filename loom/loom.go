// Package loom: many threads that run one kernel, four at a time in step: see DOC.md.
package loom

import (
	"loom/api"
	"loom/code"
	"loom/ways"
)

// Machine runs a kernel.
type Machine struct{}

// Encode makes the image of a kernel (P3).
func Encode(kernel []api.Instr) (string, api.Errno, int) { return code.Encode(kernel) }

// Decode gives the kernel of an image (P4).
func Decode(image string) ([]api.Instr, api.Errno, int) { return code.Decode(image) }

// Joins tells where threads that part come together again (P5).
func Joins(image string) ([]int, api.Errno, int) {
	list, e, at := code.Decode(image)
	if e != api.OK {
		return nil, e, at
	}
	return ways.Joins(list), api.OK, 0
}

// New makes a machine (P6).
func New(image string, threads int, first int, memory []int) (*Machine, api.Errno, int) {
	return nil, api.OK, 0
}

// State tells whether it goes on (P7).
func (m *Machine) State() int { return 0 }

// Turn lets a warp run (P8).
func (m *Machine) Turn(pick int, budget int) (api.Turn, api.Errno) { return api.Turn{}, api.OK }

// Memory tells the words (P9).
func (m *Machine) Memory() []int { return nil }

// Registers tells a thread's registers (P9).
func (m *Machine) Registers(thread int) ([]int, api.Errno) { return nil, api.OK }

// Done tells whether a thread is done (P9).
func (m *Machine) Done(thread int) (bool, api.Errno) { return false, api.OK }
