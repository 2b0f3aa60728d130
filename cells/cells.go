// Package cells holds what a kernel computes with, the registers of the threads and the words of the memory, and does the operations that change them.
package cells

import "loom/api"

// Cells: the registers of all threads, and the memory that they share.
type Cells struct {
	first int // the name of thread 0
	regs  [api.MaxThreads][api.Regs]int
	count int // how many of the words there are
	words [api.MaxMem]int
}

// Outcome: what came of an instruction: how many segments it took; the fault, and the first thread for which it can't be done.
type Outcome struct {
	Segments, Fault, Thread int
}

// New gives registers of 0, and these words.
func New(first int, memory []int) Cells {
	c := Cells{first: first}
	for i, word := range memory {
		if i < len(c.words) {
			c.words[i] = word
			c.count = i + 1
		}
	}
	return c
}

// Memory lists the words.
func (c *Cells) Memory() []int {
	var list []int
	for i, word := range c.words {
		if i < c.count {
			list = append(list, word)
		}
	}
	return list
}

// Registers lists the registers of a thread; none, if there can be no such thread.
func (c *Cells) Registers(thread int) []int {
	var list []int
	if thread < 0 || thread >= len(c.regs) {
		return list
	}
	for _, value := range c.regs[thread] {
		list = append(list, value)
	}
	return list
}

// Zeros gives those of a group that have a 0 in a register; base is the thread of lane 0.
func (c *Cells) Zeros(register int, base int, group int) int {
	zeros := 0
	for lane := 0; lane < api.Lanes; lane++ {
		if c.get(base+lane, register) == 0 {
			zeros |= 1 << lane
		}
	}
	return zeros & group
}

// Do lets the threads of a group do x, one after the other, as far as it can be done; base is the thread of lane 0.
func (c *Cells) Do(x api.Instr, base int, group int) Outcome {
	taken := 0
	for lane := 0; lane < api.Lanes; lane++ {
		if group>>lane&1 == 0 {
			continue
		}
		segment, fault := c.operate(x, base+lane)
		if fault != api.NoFault {
			return Outcome{Segments: sizeOf(taken), Fault: fault, Thread: base + lane}
		}
		taken |= segment
	}
	return Outcome{Segments: sizeOf(taken)}
}

// operate lets one thread do x: it gives the segment in which it did so, as a set of one (bit s: segment s; empty, where no word was meant), or the fault.
func (c *Cells) operate(x api.Instr, thread int) (int, int) {
	switch x.Op {
	case api.Load, api.Store, api.Fetch:
		return c.access(x, thread)
	case api.Set:
		c.put(thread, x.A, x.B)
	case api.Tid:
		c.put(thread, x.A, c.first+thread)
	default:
		left := c.get(thread, x.B)
		right := c.get(thread, x.C)
		value, fault := compute(x.Op, left, right)
		if fault != api.NoFault {
			return 0, fault
		}
		c.put(thread, x.A, value)
	}
	return 0, api.NoFault
}

// access lets one thread do Load, Store or Fetch.
func (c *Cells) access(x api.Instr, thread int) (int, int) {
	// A sum that wraps round is below 0, so it is no address either way.
	address := c.get(thread, x.B) + x.C
	if address < 0 || address >= c.count {
		return 0, api.BadAddress
	}
	word := c.words[address]
	value := c.get(thread, x.A)
	switch x.Op {
	case api.Load:
		c.put(thread, x.A, word)
	case api.Store:
		c.words[address] = value
	case api.Fetch:
		c.words[address] = word + value
		c.put(thread, x.A, word)
	}
	return 1 << (address / api.Segment), api.NoFault
}

// get gives a register of a thread.
func (c *Cells) get(thread int, register int) int {
	if !mayBe(thread, register) {
		return 0
	}
	return c.regs[thread][register]
}

// put lays a value in a register of a thread.
func (c *Cells) put(thread int, register int, value int) {
	if mayBe(thread, register) {
		c.regs[thread][register] = value
	}
}

// mayBe tells whether there can be a thread and a register of these numbers.
func mayBe(thread int, register int) bool {
	return thread >= 0 && thread < api.MaxThreads && register >= 0 && register < api.Regs
}
