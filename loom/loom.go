// Package loom: many threads that run one kernel, four at a time in step: see DOC.md.
package loom

import (
	"loom/api"
	"loom/cells"
	"loom/code"
	"loom/flow"
	"loom/ways"
)

// Machine runs a kernel.
type Machine struct {
	list    []api.Instr
	joins   []int
	threads int
	state   int
	cells   cells.Cells
	warps   [api.MaxThreads / api.Lanes]flow.Warp // those without threads are done from the beginning
}

// Encode makes the image of a kernel (P3).
func Encode(kernel []api.Instr) (string, api.Errno, int) { return code.Encode(kernel) }

// Decode gives the kernel of an image (P4).
func Decode(image string) ([]api.Instr, api.Errno, int) { return code.Decode(image) }

// Joins tells where threads that part come together again (P5).
func Joins(image string) ([]int, api.Errno, int) {
	list, e, at := code.Decode(image)
	if e != api.OK {
		return nil, e, at
	}
	return ways.Joins(list), api.OK, 0
}

// New makes a machine (P6).
func New(image string, threads int, first int, memory []int) (*Machine, api.Errno, int) {
	list, e, at := code.Decode(image)
	if e != api.OK {
		return nil, e, at
	}
	if threads < 1 || threads > api.MaxThreads || first < 0 || first > api.MaxFirst {
		return nil, api.ErrThreads, 0
	}
	if len(memory) < 1 || len(memory) > api.MaxMem {
		return nil, api.ErrMem, 0
	}
	m := &Machine{list: list, threads: threads, state: api.Ready}
	m.joins = ways.Joins(list)
	m.cells = cells.New(first, memory)
	for w := range m.warps {
		m.warps[w] = flow.Begin(threads - w*api.Lanes)
	}
	return m, api.OK, 0
}

// State tells whether it goes on (P7).
func (m *Machine) State() int { return m.state }

// Turn lets a warp run (P8).
func (m *Machine) Turn(pick int, budget int) (api.Turn, api.Errno) {
	if m.state != api.Ready {
		return api.Turn{}, api.ErrStopped
	}
	if budget < 1 || budget > api.MaxBudget {
		return api.Turn{}, api.ErrBudget
	}
	w := m.choose(pick)
	turn := m.run(w, budget)
	m.state = m.stateBehind(w, turn.Fault)
	if m.noneReady() {
		m.releaseAll()
	}
	return turn, api.OK
}

// Memory tells the words (P9).
func (m *Machine) Memory() []int { return m.cells.Memory() }

// Registers tells a thread's registers (P9).
func (m *Machine) Registers(thread int) ([]int, api.Errno) {
	if thread < 0 || thread >= m.threads {
		return nil, api.ErrThread
	}
	return m.cells.Registers(thread), api.OK
}

// Done tells whether a thread is done (P9).
func (m *Machine) Done(thread int) (bool, api.Errno) {
	if thread < 0 || thread >= m.threads {
		return false, api.ErrThread
	}
	return m.warps[thread/api.Lanes].LaneDone(thread % api.Lanes), api.OK
}
