package loom

import (
	"loom/api"
	"loom/cells"
)

// choose gives the warp at place pick of those that are neither done nor waiting; the first of them, if there is no such place.
func (m *Machine) choose(pick int) int {
	chosen := 0
	place := 0
	for w := range m.warps {
		if !m.warps[w].Ready() {
			continue
		}
		if place == 0 || place == pick {
			chosen = w
		}
		place++
	}
	return chosen
}

// run issues the instructions of a warp, till it is done or waits, there is a fault, or the budget is used up.
func (m *Machine) run(w int, budget int) api.Turn {
	turn := api.Turn{Warp: w}
	for turn.Steps < budget && turn.Fault == api.NoFault && m.warps[w].Ready() {
		pc := m.warps[w].Pc()
		group := m.warps[w].Group()
		turn.Log = append(turn.Log, api.Issue{Pc: pc, Group: group})
		out := m.issue(w)
		turn.Steps++
		turn.Segments += out.Segments
		if out.Fault != api.NoFault {
			turn.Fault = out.Fault
			turn.Pc = pc
			turn.Thread = out.Thread
		}
	}
	return turn
}

// issue lets the group of a warp do the instruction at which it stands.
func (m *Machine) issue(w int) cells.Outcome {
	warp := &m.warps[w]
	base := w * api.Lanes
	group := warp.Group()
	pc := warp.Pc()
	x := m.instr(pc)
	switch x.Op {
	case api.Exit:
		warp.Exit()
	case api.Jump:
		warp.GoOn(x.B)
	case api.Zero:
		zeros := m.cells.Zeros(x.A, base, group)
		join := m.join(pc)
		warp.Branch(zeros, x.B, pc+1, join)
	case api.Wait:
		if warp.InSplit() {
			return cells.Outcome{Fault: api.BadWait, Thread: base + warp.FirstLane()}
		}
		warp.Wait(pc + 1)
	default:
		out := m.cells.Do(x, base, group)
		if out.Fault == api.NoFault {
			warp.GoOn(pc + 1)
		}
		return out
	}
	return cells.Outcome{}
}

// instr gives the instruction pc of the kernel; an Exit, if there is none.
func (m *Machine) instr(pc int) api.Instr {
	if pc < 0 || pc >= len(m.list) {
		return api.Instr{Op: api.Exit}
	}
	return m.list[pc]
}

// join gives the join of the instruction pc; -1, if there is none.
func (m *Machine) join(pc int) int {
	if pc < 0 || pc >= len(m.joins) {
		return -1
	}
	return m.joins[pc]
}

// stateBehind gives the state behind a turn of a warp that ended with this fault, or with none.
func (m *Machine) stateBehind(w int, fault int) int {
	if fault != api.NoFault {
		return api.Faulted
	}
	// A warp that could go on has not come to be done or to wait: only its budget can have stopped it.
	if m.warps[w].Ready() {
		return api.Spent
	}
	if m.allDone() {
		return api.Over
	}
	return api.Ready
}

// allDone tells whether all warps are done.
func (m *Machine) allDone() bool {
	for w := range m.warps {
		if !m.warps[w].Done() {
			return false
		}
	}
	return true
}

// noneReady tells whether each warp is done or waits.
func (m *Machine) noneReady() bool {
	for w := range m.warps {
		if m.warps[w].Ready() {
			return false
		}
	}
	return true
}

// releaseAll lets all warps that wait go on.
func (m *Machine) releaseAll() {
	for w := range m.warps {
		m.warps[w].Release()
	}
}
