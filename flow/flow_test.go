package flow_test

import (
	"testing"

	"loom/flow"
)

// TestBegin: how many threads make which group.
func TestBegin(t *testing.T) {
	for _, c := range [][2]int{{-5, 0}, {0, 0}, {1, 1}, {2, 3}, {3, 7}, {4, 15}, {5, 15}, {16, 15}} {
		w := flow.Begin(c[0])
		if w.Group() != c[1] || w.Pc() != 0 || w.InSplit() || w.Done() != (c[1] == 0) || w.Ready() != (c[1] != 0) {
			t.Errorf("of %d threads: group %d at %d, split %v, done %v, ready %v", c[0], w.Group(), w.Pc(), w.InSplit(), w.Done(), w.Ready())
		}
	}
}

// want: the group, where it stands, and whether a split is open.
func want(t *testing.T, w *flow.Warp, group, pc int, split bool) {
	t.Helper()
	if w.Group() != group || w.Pc() != pc || w.InSplit() != split {
		t.Errorf("group %d at %d, split %v, want %d, %d, %v", w.Group(), w.Pc(), w.InSplit(), group, pc, split)
	}
}

func TestSplitsWithinSplits(t *testing.T) {
	w := flow.Begin(4)
	w.Branch(1, 10, 1, 20)
	want(t, &w, 1, 10, true)
	w.GoOn(20)
	want(t, &w, 14, 1, true)
	w.Branch(2, 15, 2, 19)
	want(t, &w, 2, 15, true)
	w.GoOn(19)
	w.Branch(8, 16, 3, 18)
	want(t, &w, 8, 16, true)
	w.GoOn(18)
	want(t, &w, 4, 3, true)
	w.GoOn(18)
	want(t, &w, 12, 18, true)
	w.GoOn(19)
	want(t, &w, 14, 19, true)
	w.GoOn(20)
	want(t, &w, 15, 20, false)
	w.Exit()
	want(t, &w, 0, 20, false)
	if !w.Done() || w.Ready() {
		t.Errorf("done %v, ready %v", w.Done(), w.Ready())
	}
}

// TestOneEndForMany: a join that is the end of all open splits closes them at once.
func TestOneEndForMany(t *testing.T) {
	w := flow.Begin(4)
	w.Branch(1, 9, 1, 9)
	want(t, &w, 14, 1, true)
	w.Branch(2, 9, 2, 9)
	want(t, &w, 12, 2, true)
	w.Branch(4, 9, 3, 9)
	want(t, &w, 8, 3, true)
	w.GoOn(9)
	want(t, &w, 15, 9, false)
}

func TestThreadsThatAreDoneDoNotComeBack(t *testing.T) {
	w := flow.Begin(3)
	w.Branch(2, 5, 1, 7)
	w.Exit()
	want(t, &w, 5, 1, true)
	w.GoOn(7)
	want(t, &w, 5, 7, false)
	for lane, done := range []bool{false, true, false, false} {
		if w.LaneDone(lane) != done {
			t.Errorf("lane %d: %v", lane, w.LaneDone(lane))
		}
	}
	w = flow.Begin(3)
	w.Branch(2, 5, 1, -1)
	w.Exit()
	want(t, &w, 5, 1, true)
	w.Exit()
	if !w.Done() || w.InSplit() {
		t.Errorf("done %v, split %v", w.Done(), w.InSplit())
	}
}

func TestWaiting(t *testing.T) {
	w := flow.Begin(2)
	w.Wait(4)
	want(t, &w, 3, 4, false)
	if w.Ready() || w.Done() {
		t.Errorf("a warp that waits: ready %v, done %v", w.Ready(), w.Done())
	}
	w.Release()
	if !w.Ready() {
		t.Errorf("a warp that goes on is not ready")
	}
}

// TestNoSplit: where all go one way none is open; lanes outside of the group are no part of it.
func TestNoSplit(t *testing.T) {
	w := flow.Begin(2)
	w.Branch(15, 6, 1, 9)
	want(t, &w, 3, 6, false)
	w.Branch(12, 8, 7, 9)
	want(t, &w, 3, 7, false)
	w.Branch(-1, 5, 1, -1)
	want(t, &w, 3, 5, false)
	if w.LaneDone(-1) || w.LaneDone(1<<62) || w.FirstLane() != 0 {
		t.Errorf("lanes that there are not: %v, %v, %d", w.LaneDone(-1), w.LaneDone(1<<62), w.FirstLane())
	}
	w.Exit()
	w.Exit()
	if !w.Done() || w.FirstLane() != 0 {
		t.Errorf("done %v, first %d", w.Done(), w.FirstLane())
	}
}
