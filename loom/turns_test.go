package loom_test

import (
	"math"
	"reflect"
	"testing"

	"loom/api"
	"loom/loom"
)

// sides: a kernel ahead of whose instructions register 1, 2, 3 of each thread is laid from the words: of thread i the words i, 4 + i, 8 + i. The targets of rest count from its own beginning.
func sides(rest ...api.Instr) []api.Instr {
	list := kernel(8, 0, 0, 0, 9, 1, 0, 0, 9, 2, 0, 4, 9, 3, 0, 8)
	for _, x := range rest {
		if x.Op == 12 || x.Op == 13 {
			x.B += 4
		}
		list = append(list, x)
	}
	return list
}

// zeroOf: a Zero of a register.
func zeroOf(register, to int) api.Instr { return api.Instr{Op: 13, A: register, B: to} }

// wantGroups: the kernel of sides with these words answers this Log behind its beginning (the targets counted as there), for four threads; and the model says so.
func wantGroups(t *testing.T, what string, rest []api.Instr, words []int, log []api.Issue, state int) {
	t.Helper()
	machine, m := begin(t, sides(rest...), 4, 0, words)
	turn := wantTurn(t, machine, m, 0, 60)
	want := issues(0, 15, 1, 15, 2, 15, 3, 15)
	for _, x := range log {
		want = append(want, api.Issue{Pc: x.Pc + 4, Group: x.Group})
	}
	if !reflect.DeepEqual(turn.Log, want) || turn.Steps != len(want) || machine.State() != state {
		t.Errorf("P8: %s: %+v, State %d, want %v, %d", what, turn, machine.State(), want, state)
	}
}

func TestSplits(t *testing.T) {
	wait := api.Instr{Op: 14}
	for _, c := range []struct {
		what  string
		rest  []api.Instr
		words []int // for registers 1, 2, 3 of the threads 0 to 3
		log   []api.Issue
		state int
	}{
		{"all have a 0", []api.Instr{zeroOf(1, 2), on, exit}, []int{0, 0, 0, 0, 1, 1, 1, 1, 1, 1, 1, 1},
			issues(0, 15, 2, 15), over},
		{"none has a 0", []api.Instr{zeroOf(1, 2), on, exit}, []int{1, -1, 7, math.MinInt, 0, 0, 0, 0, 0, 0, 0, 0},
			issues(0, 15, 1, 15, 2, 15), over},
		{"those with a 0 are at the join at once", []api.Instr{zeroOf(1, 2), on, exit}, []int{0, 1, 0, 1, 0, 0, 0, 0, 0, 0, 0, 0},
			issues(0, 15, 1, 10, 2, 15), over},
		{"those with a 0 first, then the others", []api.Instr{zeroOf(1, 3), on, jump(4), on, exit}, []int{1, 1, 0, 1, 0, 0, 0, 0, 0, 0, 0, 0},
			issues(0, 15, 3, 4, 1, 11, 2, 11, 4, 15), over},
		{"both begin at the join", []api.Instr{zeroOf(1, 1), on, exit}, []int{0, 1, 0, 1, 0, 0, 0, 0, 0, 0, 0, 0},
			issues(0, 15, 1, 15, 2, 15), over},
		{"the others begin at the join", []api.Instr{zeroOf(2, 3), on, exit, jump(1)}, []int{0, 0, 0, 0, 5, 0, 5, 0, 0, 0, 0, 0},
			issues(0, 15, 3, 10, 1, 15, 2, 15), over},
		{"the register that is named", []api.Instr{zeroOf(3, 2), on, exit}, []int{0, 0, 0, 0, 0, 0, 0, 0, 1, 0, 1, 1},
			issues(0, 15, 1, 13, 2, 15), over},
		{"one behind the other", []api.Instr{zeroOf(1, 2), on, zeroOf(2, 4), on, exit}, []int{0, 0, 1, 1, 0, 1, 0, 1, 0, 0, 0, 0},
			issues(0, 15, 1, 12, 2, 15, 3, 10, 4, 15), over},
		{"within the side with a 0", []api.Instr{zeroOf(1, 3), on, jump(7), zeroOf(2, 6), on, jump(6), on, exit}, []int{0, 0, 0, 1, 0, 1, 1, 1, 0, 0, 0, 0},
			issues(0, 15, 3, 7, 4, 6, 5, 6, 6, 7, 1, 8, 2, 8, 7, 15), over},
		{"within the other side", []api.Instr{zeroOf(1, 4), zeroOf(2, 3), on, on, exit}, []int{0, 1, 1, 1, 1, 0, 1, 1, 0, 0, 0, 0},
			issues(0, 15, 1, 14, 2, 12, 3, 14, 4, 15), over},
		{"within both sides", []api.Instr{zeroOf(1, 5), zeroOf(2, 3), on, on, jump(8), zeroOf(2, 7), on, on, exit}, []int{0, 0, 1, 1, 0, 1, 0, 1, 0, 0, 0, 0},
			issues(0, 15, 5, 3, 6, 2, 7, 3, 1, 12, 2, 8, 3, 12, 4, 12, 8, 15), over},
		{"three deep, with one join", []api.Instr{zeroOf(1, 4), zeroOf(2, 4), zeroOf(3, 4), on, exit}, []int{0, 1, 1, 1, 0, 0, 1, 1, 0, 0, 0, 1},
			issues(0, 15, 1, 14, 2, 12, 3, 8, 4, 15), over},
		{"three deep, with joins of their own", []api.Instr{zeroOf(1, 6), zeroOf(2, 5), zeroOf(3, 4), on, on, on, exit}, []int{0, 1, 1, 1, 0, 0, 1, 1, 0, 0, 0, 1},
			issues(0, 15, 1, 14, 2, 12, 3, 8, 4, 12, 5, 14, 6, 15), over},
		{"three deep, those with a 0 ahead", []api.Instr{zeroOf(1, 2), exit, zeroOf(2, 4), exit, zeroOf(3, 6), exit, exit}, []int{1, 0, 0, 0, 1, 1, 0, 0, 1, 1, 1, 0},
			issues(0, 15, 2, 14, 4, 12, 6, 8, 5, 4, 3, 2, 1, 1), over},
		{"no join: both sides are done", []api.Instr{zeroOf(1, 3), on, exit, exit}, []int{0, 1, 0, 1, 0, 0, 0, 0, 0, 0, 0, 0},
			issues(0, 15, 3, 5, 1, 10, 2, 10), over},
		{"no join in a split that has one: a side of the inner one never ends", []api.Instr{zeroOf(1, 4), zeroOf(2, 3), jump(2), on, exit}, []int{0, 1, 1, 1, 0, 0, 0, 0, 0, 0, 0, 0},
			issues(0, 15, 1, 14, 3, 14, 4, 15), over},
		{"a loop that the threads leave one by one", []api.Instr{{Op: 1, A: 3, B: 1}, {Op: 3, A: 1, B: 1, C: 3}, zeroOf(1, 4), jump(1), exit}, []int{3, 1, 2, 1, 0, 0, 0, 0, 0, 0, 0, 0},
			issues(0, 15, 1, 15, 2, 15, 3, 5, 1, 5, 2, 5, 3, 1, 1, 1, 2, 1, 4, 15), over},
		{"a loop in which those with a 0 go round", []api.Instr{{Op: 2, A: 2, B: 2, C: 3}, {Op: 6, A: 0, B: 1, C: 2}, zeroOf(0, 0), on, exit}, []int{2, 0, 1, 1, 0, 0, 0, 0, 1, 1, 1, 1},
			issues(0, 15, 1, 15, 2, 15, 0, 13, 1, 13, 2, 13, 0, 1, 1, 1, 2, 1, 3, 15, 4, 15), over},
		{"threads that are done are in no group", []api.Instr{zeroOf(1, 4), zeroOf(2, 3), exit, exit, exit}, []int{1, 1, 0, 1, 1, 0, 0, 1, 0, 0, 0, 0},
			issues(0, 15, 4, 4, 1, 11, 3, 2, 2, 9), over},
		{"Wait behind a split", []api.Instr{zeroOf(1, 2), on, wait, exit}, []int{0, 1, 0, 1, 0, 0, 0, 0, 0, 0, 0, 0},
			issues(0, 15, 1, 10, 2, 15), ready},
		{"Wait on the side with a 0", []api.Instr{zeroOf(1, 2), exit, wait, exit}, []int{1, 0, 1, 0, 0, 0, 0, 0, 0, 0, 0, 0},
			issues(0, 15, 2, 10), faulted},
		{"Wait on the other side, when the first is done", []api.Instr{zeroOf(1, 3), wait, exit, exit}, []int{0, 0, 1, 0, 0, 0, 0, 0, 0, 0, 0, 0},
			issues(0, 15, 3, 11, 1, 4), faulted},
		{"Wait behind an inner split, within the outer one", []api.Instr{zeroOf(1, 5), zeroOf(2, 3), on, wait, on, exit}, []int{0, 1, 1, 1, 0, 0, 1, 1, 0, 0, 0, 0},
			issues(0, 15, 1, 14, 2, 12, 3, 14), faulted},
		{"Wait of all on one side", []api.Instr{zeroOf(1, 2), wait, exit}, []int{1, 1, 1, 1, 0, 0, 0, 0, 0, 0, 0, 0},
			issues(0, 15, 1, 15), ready},
	} {
		wantGroups(t, c.what, c.rest, c.words, c.log, c.state)
	}
}

func TestASplitWithoutAWayToAnExit(t *testing.T) {
	// Both sides go round for ever: the first of them alone is ever issued.
	machine, m := begin(t, kernel(8, 0, 0, 0, 13, 0, 3, 0, 12, 0, 2, 0, 12, 0, 3, 0), 2, 0, []int{0})
	wantAnswer(t, machine, m, 0, 6, api.Turn{Steps: 6, Log: issues(0, 3, 1, 3, 3, 1, 3, 1, 3, 1, 3, 1)}, spent)
	// The side with a 0 is done; the other goes round for ever.
	machine, m = begin(t, kernel(8, 0, 0, 0, 13, 0, 3, 0, 12, 0, 2, 0, 0, 0, 0, 0), 2, 0, []int{0})
	wantAnswer(t, machine, m, 0, 6, api.Turn{Steps: 6, Log: issues(0, 3, 1, 3, 2, 2, 2, 2, 2, 2, 2, 2)}, spent)
	wantDone(t, machine, false, false)
}

func TestDoneBehindASpentTurn(t *testing.T) {
	// Both sides end by themselves; the budget ends between them.
	list := kernel(8, 0, 0, 0, 13, 0, 3, 0, 0, 0, 0, 0, 1, 1, 9, 0, 0, 0, 0, 0)
	machine, m := begin(t, list, 3, 0, []int{0})
	wantAnswer(t, machine, m, 0, 4, api.Turn{Steps: 4, Log: issues(0, 7, 1, 7, 3, 1, 4, 1)}, spent)
	wantDone(t, machine, true, false, false)
	wantRegisters(t, machine, 0, 0, 9, 0, 0)
	wantRegisters(t, machine, 1, 1, 0, 0, 0)
	machine, m = begin(t, list, 3, 0, []int{0})
	wantAnswer(t, machine, m, 0, 5, api.Turn{Steps: 5, Log: issues(0, 7, 1, 7, 3, 1, 4, 1, 2, 6)}, over)
	wantDone(t, machine, true, true, true)
}

func TestBudgets(t *testing.T) {
	// ODD takes 11 instructions.
	for budget := 1; budget <= 13; budget++ {
		machine, m := begin(t, odd(), 3, 4, make([]int, 8))
		turn := wantTurn(t, machine, m, 0, budget)
		want, state := budget, spent
		if budget >= 11 {
			want, state = 11, over
		}
		if turn.Steps != want || len(turn.Log) != want || machine.State() != state {
			t.Errorf("P8: ODD with the budget %d: %+v, State %d", budget, turn, machine.State())
		}
	}
	// The fault comes with the instruction 10 that is issued.
	for budget := 9; budget <= 11; budget++ {
		machine, m := begin(t, odd(), 3, 6, make([]int, 8))
		turn := wantTurn(t, machine, m, 0, budget)
		want, state := 10, faulted
		if budget == 9 {
			want, state = 9, spent
		}
		if turn.Steps != want || machine.State() != state {
			t.Errorf("P8: ODD at its fault with the budget %d: %+v, State %d", budget, turn, machine.State())
		}
	}
	// Wait is the instruction 4 that is issued.
	for budget := 3; budget <= 5; budget++ {
		machine, m := begin(t, meet(), 2, 0, make([]int, 32))
		turn := wantTurn(t, machine, m, 0, budget)
		want, state := 4, ready
		if budget == 3 {
			want, state = 3, spent
		}
		if turn.Steps != want || machine.State() != state {
			t.Errorf("P8: the budget %d ahead of a Wait: %+v, State %d", budget, turn, machine.State())
		}
	}
	// BadWait is the instruction 3.
	for budget := 2; budget <= 4; budget++ {
		machine, m := begin(t, waitApart(), 2, 0, []int{0})
		wantTurn(t, machine, m, 0, budget)
		if state := machine.State(); (state == faulted) != (budget > 2) || (state == spent) != (budget == 2) {
			t.Errorf("P7: the budget %d ahead of a BadWait: State %d", budget, state)
		}
	}
	// The greatest: each turn has its own, and what one leaves is not the next one's.
	machine, m := begin(t, kernel(12, 0, 0, 0), 1, 0, []int{0})
	if turn := wantTurn(t, machine, m, 0, maxBudget); turn.Steps != 2000 || len(turn.Log) != 2000 || machine.State() != spent {
		t.Errorf("P8: a loop without an end: %d steps, State %d", turn.Steps, machine.State())
	}
	machine, m = begin(t, kernel(14, 0, 0, 0, 14, 0, 0, 0, 1, 0, 1, 0, 0, 0, 0, 0), 1, 0, []int{0})
	wantAnswer(t, machine, m, 0, 1, api.Turn{Steps: 1, Log: issues(0, 1)}, ready)
	wantAnswer(t, machine, m, 0, 1, api.Turn{Steps: 1, Log: issues(1, 1)}, ready)
	wantAnswer(t, machine, m, 0, 1, api.Turn{Steps: 1, Log: issues(2, 1)}, spent)
}

// TestBudgetAtTheEndOfAGroup: groups that come to their end at the last instruction are no reason to go on.
func TestBudgetAtTheEndOfAGroup(t *testing.T) {
	rest := []api.Instr{zeroOf(1, 3), on, jump(4), on, exit}
	words := []int{0, 1, 0, 1, 0, 0, 0, 0, 0, 0, 0, 0}
	for budget := 1; budget <= 10; budget++ {
		wantRun(t, sides(rest...), 4, 0, words, budget)
	}
}

// wantRefused: the turn is refused with this error, its answer is empty, and nothing changes.
func wantRefused(t *testing.T, machine *loom.Machine, m *model, pick, budget int, e api.Errno) {
	t.Helper()
	turn, gotE := machine.Turn(pick, budget)
	if gotE != e || !reflect.DeepEqual(turn, api.Turn{}) {
		t.Errorf("P8: Turn(%d, %d) = %+v, %d, want %d", pick, budget, turn, gotE, e)
	}
	wantSame(t, machine, m)
}

func badBudgets() []int {
	return []int{0, -1, -2000, 2001, 2002, 1 << 32, 1<<32 + 1, 1 << 62, math.MaxInt, math.MinInt, math.MinInt + 1}
}

func TestRefusedBudgets(t *testing.T) {
	machine, m := begin(t, meet(), 6, 0, make([]int, 32))
	for turns := 0; turns < 4; turns++ {
		for _, budget := range badBudgets() {
			wantRefused(t, machine, m, turns%3-1, budget, errBudget)
		}
		wantTurn(t, machine, m, turns%3-1, maxBudget)
	}
	if m.state != over {
		t.Errorf("the state is %d", m.state)
	}
}

func TestStoppedMachines(t *testing.T) {
	for _, c := range []struct {
		list           []api.Instr
		threads, first int
		budget, state  int
	}{
		{odd(), 3, 4, 100, over}, {odd(), 3, 6, 100, faulted}, {odd(), 3, 4, 5, spent}, {again(), 2, 0, 9, spent}, {waitApart(), 2, 0, 100, faulted}, {divide(), 16, 0, 100, faulted}, {odd(), 12, 0, 3, spent},
	} {
		machine, m := begin(t, c.list, c.threads, c.first, make([]int, 8))
		wantTurn(t, machine, m, 0, c.budget)
		if s := machine.State(); s != c.state {
			t.Errorf("P7: State = %d, want %d", s, c.state)
		}
		for _, pick := range []int{0, 1, -1, 3, math.MaxInt, math.MinInt} {
			wantRefused(t, machine, m, pick, 1, errStopped)
			wantRefused(t, machine, m, pick, maxBudget, errStopped)
			// That it has stopped is named ahead of a wrong budget.
			for _, budget := range badBudgets() {
				wantRefused(t, machine, m, pick, budget, errStopped)
			}
		}
	}
}

func TestPicks(t *testing.T) {
	list := kernel(8, 0, 0, 0, 14, 0, 0, 0, 0, 0, 0, 0)
	first := func(w int) api.Turn { return api.Turn{Warp: w, Steps: 2, Log: issues(0, 15, 1, 15)} }
	last := func(w int) api.Turn { return api.Turn{Warp: w, Steps: 1, Log: issues(2, 15)} }
	// By their places among those that may run: 2 of 0 1 2 3, then 2 of 0 1 3, then 1 of 0 1, then the last of all.
	machine, m := begin(t, list, 16, 0, []int{0})
	wantAnswer(t, machine, m, 2, 9, first(2), ready)
	wantAnswer(t, machine, m, 2, 9, first(3), ready)
	wantAnswer(t, machine, m, 1, 9, first(1), ready)
	wantAnswer(t, machine, m, 1, 9, first(0), ready)
	// All go on: 3, then 0 of 0 1 2, then 1 of 1 2, then 1 alone.
	wantAnswer(t, machine, m, 3, 9, last(3), ready)
	wantAnswer(t, machine, m, 0, 9, last(0), ready)
	wantAnswer(t, machine, m, 1, 9, last(2), ready)
	wantAnswer(t, machine, m, 0, 9, last(1), over)
	for _, pick := range []int{-1, -4, 4, 5, 16, 1 << 32, math.MaxInt, math.MinInt} {
		machine, m = begin(t, list, 16, 0, []int{0})
		for w := 0; w < 4; w++ {
			wantAnswer(t, machine, m, pick, 9, first(w), ready)
		}
		for w := 0; w < 4; w++ {
			wantAnswer(t, machine, m, pick, 9, last(w), []int{ready, ready, ready, over}[w])
		}
	}
	// Every order of four warps.
	for order := 0; order < 24; order++ {
		machine, m = begin(t, list, 13, 0, []int{0})
		for turns := 0; turns < 8; turns++ {
			wantTurn(t, machine, m, []int{order / 6, order / 2 % 3, order % 2, 0}[turns%4], 9)
		}
		if m.state != over {
			t.Errorf("the state is %d", m.state)
		}
	}
}

func TestHowManyWarps(t *testing.T) {
	for threads := 1; threads <= maxThreads; threads++ {
		warps := (threads + 3) / 4
		machine, m := begin(t, kernel(0, 0, 0, 0), threads, 0, []int{0})
		for w := warps - 1; w >= 0; w-- {
			group := 15
			if w == warps-1 {
				group = 1<<(threads-4*w) - 1
			}
			state := ready
			if w == 0 {
				state = over
			}
			wantAnswer(t, machine, m, w, 1, api.Turn{Warp: w, Steps: 1, Log: issues(0, group)}, state)
		}
	}
}

func TestWaiting(t *testing.T) {
	// The names below 4 wait twice, 4 to 7 once, 8 to 11 not at all.
	list := kernel(8, 0, 0, 0, 1, 1, 4, 0, 5, 2, 0, 1, 13, 2, 8, 0, 1, 1, 1, 0, 3, 2, 2, 1, 13, 2, 9, 0, 0, 0, 0, 0, 14, 0, 0, 0, 14, 0, 0, 0, 0, 0, 0, 0)
	machine, m := begin(t, list, 12, 0, []int{0})
	wantAnswer(t, machine, m, 0, 99, api.Turn{Warp: 0, Steps: 5, Log: issues(0, 15, 1, 15, 2, 15, 3, 15, 8, 15)}, ready)
	wantAnswer(t, machine, m, 0, 99, api.Turn{Warp: 1, Steps: 8, Log: issues(0, 15, 1, 15, 2, 15, 3, 15, 4, 15, 5, 15, 6, 15, 9, 15)}, ready)
	// Warp 2 is done: those that wait, at whichever Wait, go on.
	wantAnswer(t, machine, m, 0, 99, api.Turn{Warp: 2, Steps: 8, Log: issues(0, 15, 1, 15, 2, 15, 3, 15, 4, 15, 5, 15, 6, 15, 7, 15)}, ready)
	wantAnswer(t, machine, m, 0, 99, api.Turn{Warp: 0, Steps: 1, Log: issues(9, 15)}, ready)
	// Warp 0 waits again, and warp 1 does not: it alone may run.
	wantAnswer(t, machine, m, 0, 99, api.Turn{Warp: 1, Steps: 1, Log: issues(10, 15)}, ready)
	wantAnswer(t, machine, m, 0, 99, api.Turn{Warp: 0, Steps: 1, Log: issues(10, 15)}, over)
	// One that is spent, or at a fault, lets none go on.
	machine, m = begin(t, list, 5, 3, []int{0})
	wantAnswer(t, machine, m, 1, 4, api.Turn{Warp: 1, Steps: 4, Log: issues(0, 1, 1, 1, 2, 1, 3, 1)}, spent)
	machine, m = begin(t, list, 12, 0, []int{0})
	wantTurn(t, machine, m, 0, 99)
	wantTurn(t, machine, m, 0, 99)
	wantAnswer(t, machine, m, 0, 7, api.Turn{Warp: 2, Steps: 7, Log: issues(0, 15, 1, 15, 2, 15, 3, 15, 4, 15, 5, 15, 6, 15)}, spent)
}

// TestWaitKeepsWhatIsThere: behind a Wait the registers, and what others have written, are as they were left.
func TestWaitKeepsWhatIsThere(t *testing.T) {
	// Each writes its name at its own word, waits, and reads its neighbour's.
	list := kernel(8, 0, 0, 0, 10, 0, 0, 0, 14, 0, 0, 0, 9, 1, 0, 1, 0, 0, 0, 0)
	machine, m := begin(t, list, 8, 0, make([]int, 9))
	wantTurn(t, machine, m, 0, 99)
	wantTurn(t, machine, m, 0, 99)
	wantTurn(t, machine, m, 0, 99)
	wantRegisters(t, machine, 3, 3, 4, 0, 0)
	wantTurn(t, machine, m, 0, 99)
	wantRegisters(t, machine, 6, 6, 7, 0, 0)
	wantRegisters(t, machine, 7, 7, 0, 0, 0)
}

func fillIssues(log []api.Issue) {
	room := log[:cap(log)]
	for i := range room {
		room[i] = api.Issue{Pc: 77, Group: 77}
	}
}

func TestTheHandedMemoryIsNotWrittenIntoNorKept(t *testing.T) {
	whole := make([]int, 40)
	for i := range whole {
		whole[i] = 500 + i
	}
	before := append([]int(nil), whole...)
	for _, count := range []int{0, 1, 8, 32, 33} {
		machine, _, _ := loom.New(bytesOf(odd()), 3, 4, whole[:count])
		if machine != nil {
			machine.Turn(0, 100)
			fillInts(machine.Memory())
		}
		if !reflect.DeepEqual(whole, before) {
			t.Fatalf("P2: the memory that was handed in has become %v", whole)
		}
	}
	machine, m := begin(t, odd(), 3, 4, whole[:8])
	fillInts(whole)
	wantSame(t, machine, m)
	wantTurn(t, machine, m, 0, 5)
	fillInts(whole)
	wantSame(t, machine, m)
}

func TestListsOfMachinesAreTheCallersAlone(t *testing.T) {
	for _, count := range []int{9, 16, 31, 32} {
		machine, m := begin(t, meet(), 6, 0, make([]int, count+5)[:min(count+5, maxMem)])
		for m.state == ready {
			earlyWords := machine.Memory()
			earlyRegs, _ := machine.Registers(1)
			for i := 0; i < 6; i++ {
				fillInts(machine.Memory())
				l, _ := machine.Registers(i)
				fillInts(l)
			}
			if !reflect.DeepEqual(earlyWords, m.words) || !reflect.DeepEqual(earlyRegs, m.regs[1][:]) {
				t.Errorf("P2: writing into other lists gave %v, %v", earlyWords, earlyRegs)
			}
			wantSame(t, machine, m)
			turn := wantTurn(t, machine, m, 1, 100)
			kept := append([]api.Issue(nil), turn.Log...)
			fillInts(machine.Memory())
			if !reflect.DeepEqual(kept, turn.Log) {
				t.Errorf("P2: writing into other lists gave the Log %v", turn.Log)
			}
			fillIssues(turn.Log)
		}
	}
}

func TestLogsDoNotShareMemory(t *testing.T) {
	machine, m := begin(t, kernel(14, 0, 0, 0, 14, 0, 0, 0, 14, 0, 0, 0, 0, 0, 0, 0), 16, 0, []int{0})
	var logs, kept [][]api.Issue
	for m.state == ready {
		turn := wantTurn(t, machine, m, 0, 9)
		logs = append(logs, turn.Log)
		kept = append(kept, append([]api.Issue(nil), turn.Log...))
	}
	for i := range logs {
		fillIssues(logs[i])
		for k := i + 1; k < len(logs); k++ {
			if !reflect.DeepEqual(logs[k], kept[k]) {
				t.Fatalf("P2: writing into the Log of turn %d changed that of turn %d: %v", i, k, logs[k])
			}
		}
	}
}

func TestMachinesDoNotChangeOneAnother(t *testing.T) {
	words := make([]int, 32)
	var machines []*loom.Machine
	var models []*model
	for i := 0; i < 6; i++ {
		list := meet()
		if i%3 == 2 {
			list = odd()
		}
		machine, m := begin(t, list, 6, i, words)
		machines = append(machines, machine)
		models = append(models, m)
	}
	for turns := 0; turns < 5; turns++ {
		for i := range machines {
			wantTurn(t, machines[i], models[i], i%2, 100)
			for k := range machines {
				wantSame(t, machines[k], models[k])
			}
		}
	}
}

// TestNewHangsOnItsArgumentsAlone: a machine that has run leaves nothing behind for the next.
func TestNewHangsOnItsArgumentsAlone(t *testing.T) {
	for round := 0; round < 3; round++ {
		for _, budget := range []int{5, 9, 100} {
			wantRun(t, odd(), 3, 6, make([]int, 8), budget)
			wantRun(t, meet(), 6, 0, make([]int, 32), budget)
			wantRun(t, again(), 2, 0, []int{0}, budget)
			wantRun(t, waitApart(), 2, 0, []int{0}, budget)
		}
	}
}

// drawn: a number below limit.
func drawn(seed *uint64, limit int) int {
	n, next := draw(*seed)
	*seed = next
	return n % limit
}

// drawKernel: a kernel with a beginning that lays unlike values in the registers, and Zeros, Jumps, Waits and others behind it.
func drawKernel(seed *uint64) []api.Instr {
	count := 1 + drawn(seed, 12)
	if drawn(seed, 8) == 0 {
		count = 36
	}
	waits := drawn(seed, 3)
	kinds := 20
	if drawn(seed, 2) == 0 {
		kinds = 11 // without those that may be a fault, so that groups part further
	}
	rest := make([]api.Instr, count)
	for i := range rest {
		to := drawn(seed, count)
		if drawn(seed, 4) > 0 {
			to = min(i+1+drawn(seed, 5), count-1)
		}
		switch kind := drawn(seed, kinds); {
		case kind < 7:
			rest[i] = zeroOf(drawn(seed, regs), to)
		case kind < 8:
			rest[i] = jump(to)
		case kind < 9 && waits > 0:
			rest[i] = api.Instr{Op: 14}
		case kind < 10 && drawn(seed, 4) == 0:
			rest[i] = exit
		case kind < 11:
			rest[i] = api.Instr{Op: 3, A: 1 + drawn(seed, 2), B: 1 + drawn(seed, 2), C: 3}
		case kind < 14:
			rest[i] = api.Instr{Op: 9 + drawn(seed, 3), A: drawn(seed, regs), B: drawn(seed, regs), C: drawn(seed, 12)}
		case kind < 17:
			rest[i] = api.Instr{Op: 1, A: drawn(seed, regs), B: drawn(seed, 4)}
		default:
			rest[i] = api.Instr{Op: 2 + drawn(seed, 6), A: drawn(seed, regs), B: drawn(seed, regs), C: drawn(seed, regs)}
		}
	}
	rest[count-1] = exit
	if drawn(seed, 6) == 0 {
		rest[count-1] = jump(drawn(seed, count))
	}
	return sides(rest...)
}

func TestManyMachines(t *testing.T) {
	seed := uint64(8)
	states, faults, deeps := [4]int{}, [4]int{}, [4]int{}
	parted, held := 0, 0
	for round := 0; round < 40000 && !t.Failed(); round++ {
		list := drawKernel(&seed)
		threads := 1 + drawn(&seed, maxThreads)
		words := make([]int, maxMem-drawn(&seed, 2)*drawn(&seed, 20))
		for i := range words {
			words[i] = drawn(&seed, 2+round%4)
			if drawn(&seed, 40) == 0 {
				words[i] = edges()[drawn(&seed, len(edges()))]
			}
		}
		machine, m := begin(t, list, threads, drawn(&seed, 12), words)
		for turns := 0; turns < 40 && m.state == ready && !t.Failed(); turns++ {
			budget := 1 + drawn(&seed, 200)
			if drawn(&seed, 8) == 0 {
				budget = 1 + drawn(&seed, 12)
			}
			wantTurn(t, machine, m, drawn(&seed, 6)-1, budget)
		}
		states[m.state]++
		faults[m.turn.Fault]++
		deeps[m.deep]++
		parted += m.parted
		held += m.held
	}
	for _, n := range []int{states[over], states[faulted], states[spent], faults[byZero], faults[badAddress], faults[badWait], deeps[0], deeps[1], deeps[2], deeps[3], parted, held} {
		if n < 100 {
			t.Errorf("the machines drawn are too much alike: states %v, faults %v, splits %v, without a join %d, let go on %d", states, faults, deeps, parted, held)
			break
		}
	}
}

// TestAllSmallFlows: every order of up to three Exits, Waits, Jumps and Zeros, with an Exit or Jump behind them.
func TestAllSmallFlows(t *testing.T) {
	words := []int{0, 1, 0, 1, 0, 0, 1, 1, 1, 0, 1, 1}
	for count := 1; count <= 4; count++ {
		var each []api.Instr
		for to := 0; to < count; to++ {
			each = append(each, jump(to))
		}
		ends := append([]api.Instr{exit}, each...)
		for to := 0; to < count; to++ {
			each = append(each, zeroOf(1, to), zeroOf(2, to), zeroOf(3, to))
		}
		each = append(each, exit, api.Instr{Op: 14}, api.Instr{Op: 1, A: 1, B: 0}, api.Instr{Op: 7, A: 2, B: 1, C: 2})
		all := len(ends)
		for i := 1; i < count; i++ {
			all *= len(each)
		}
		for k := 0; k < all; k++ {
			rest := make([]api.Instr, count)
			left := k
			for i := 0; i < count-1; i++ {
				rest[i] = each[left%len(each)]
				left /= len(each)
			}
			rest[count-1] = ends[left]
			machine, m := begin(t, sides(rest...), 4, 0, words)
			for turns := 0; turns < 3 && m.state == ready; turns++ {
				wantTurn(t, machine, m, 0, 24)
			}
			if t.Failed() {
				return
			}
		}
	}
}

// FuzzTurn: machines of any image do what the model does.
func FuzzTurn(f *testing.F) {
	f.Add(bytesOf(odd()), 3, 4, "\x00\x00\x00\x00\x00\x00\x00\x00", "\x00\x64")
	f.Add(bytesOf(again()), 2, 0, "\x00", "\x00\x09")
	f.Add(bytesOf(meet()), 6, 0, string(make([]byte, 32)), "\x01\x64\x01\x64\x00\x64\x00\x64")
	f.Add(bytesOf(waitApart()), 2, 0, "\x00", "\x00\x64")
	f.Add(bytesOf(divide()), 4, 0, "\x00", "\x00\x64")
	f.Fuzz(func(t *testing.T, image string, threads, first int, memory string, turns string) {
		if len(memory) > 2*maxMem {
			return
		}
		var words []int
		for i := range len(memory) {
			words = append(words, int(int8(memory[i])))
		}
		list, e, at := loom.Decode(image)
		switch {
		case e != noError:
		case threads < 1 || threads > maxThreads || first < 0 || first > maxFirst:
			e = errThreads
		case len(words) == 0 || len(words) > maxMem:
			e = errMem
		}
		if e != noError {
			wantNoMachine(t, image, threads, first, words, e, at)
			return
		}
		machine, m := begin(t, list, threads, first, words)
		for i := 0; i+1 < len(turns); i += 2 {
			wantTurn(t, machine, m, int(int8(turns[i])), int(turns[i+1]))
		}
	})
}
