// Package flow tells where the threads of a warp stand: which of them run as a group, which splits are open, and which threads are done. A set of threads is a number that has bit k if the thread of lane k is in it.
package flow

import "loom/api"

// none stands for the instruction of a group that runs to none; it is the join that there is not, too.
const none = -1

// Warp: the group that runs, and what is to come behind it.
type Warp struct {
	group  int // empty only when the whole warp is done
	pc     int // where the group stands
	to     int // where it comes to its end
	done   int
	waits  bool
	open   int                  // how many of the splits are open, the innermost last
	splits [api.Lanes - 1]split // there can't be more: each side is smaller than the group that split
}

// split: a group that has split, one side of which runs.
type split struct {
	group int
	to    int // where the group itself runs to
	later int // the side that has yet to run; empty, once it runs
	next  int // where that side begins
	join  int
}

// Begin gives a warp of count threads at its beginning; without threads it is done.
func Begin(count int) Warp {
	group := 0
	for lane := 0; lane < count && lane < api.Lanes; lane++ {
		group |= 1 << lane
	}
	return Warp{group: group, to: none}
}

// Group gives the threads that run.
func (w *Warp) Group() int { return w.group }

// Pc gives the instruction at which they stand.
func (w *Warp) Pc() int { return w.pc }

// Done tells whether all threads are done.
func (w *Warp) Done() bool { return w.group == 0 }

// Ready tells whether the warp is neither done nor waiting.
func (w *Warp) Ready() bool { return w.group != 0 && !w.waits }

// InSplit tells whether a split is open.
func (w *Warp) InSplit() bool { return w.open > 0 }

// LaneDone tells whether the thread of a lane is done.
func (w *Warp) LaneDone(lane int) bool { return lane >= 0 && w.done>>lane&1 == 1 }

// FirstLane gives the first lane of the group.
func (w *Warp) FirstLane() int {
	for lane := 0; lane < api.Lanes; lane++ {
		if w.group>>lane&1 == 1 {
			return lane
		}
	}
	return 0
}

// GoOn lets the group go on at pc.
func (w *Warp) GoOn(pc int) {
	w.pc = pc
	w.follow()
}

// Exit makes all threads of the group done.
func (w *Warp) Exit() {
	w.done |= w.group
	w.group = 0
	w.follow()
}

// Wait lets the warp wait; behind that the group goes on at pc.
func (w *Warp) Wait(pc int) {
	w.GoOn(pc)
	w.waits = true
}

// Release lets a warp that waits go on.
func (w *Warp) Release() { w.waits = false }

// Branch lets the threads of zeros go on at target, the others of the group at next, till they meet at join.
func (w *Warp) Branch(zeros int, target int, next int, join int) {
	zeros &= w.group
	others := w.group &^ zeros
	if zeros == 0 {
		w.GoOn(next)
		return
	}
	if others == 0 {
		w.GoOn(target)
		return
	}
	if w.open < len(w.splits) {
		w.splits[w.open] = split{group: w.group, to: w.to, later: others, next: next, join: join}
		w.open++
	}
	w.group = zeros
	w.to = join
	w.GoOn(target)
}

// follow looks for the group that goes on, when the one that ran has come to its end.
func (w *Warp) follow() {
	// Each round begins the second side of a split or closes a split, so the rounds end.
	for w.ended() && w.open > 0 {
		s := w.splits[w.open-1]
		if s.later != 0 {
			w.splits[w.open-1].later = 0
			w.group = s.later
			w.pc = s.next
			w.to = s.join
			continue
		}
		w.open--
		w.group = s.group &^ w.done
		w.pc = s.join
		w.to = s.to
	}
}

// ended tells whether the group that runs has come to its end.
func (w *Warp) ended() bool { return w.group == 0 || w.pc == w.to }
