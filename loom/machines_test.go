package loom_test

import (
	"math"
	"reflect"
	"strings"
	"testing"

	"loom/api"
	"loom/loom"
)

// kernel: of four numbers an instruction.
func kernel(l ...int) []api.Instr {
	var list []api.Instr
	for i := 0; i < len(l); i += 4 {
		list = append(list, api.Instr{Op: l[i], A: l[i+1], B: l[i+2], C: l[i+3]})
	}
	return list
}

// issues: the instructions of a Log, and for each the group.
func issues(l ...int) []api.Issue {
	var log []api.Issue
	for i := 0; i < len(l); i += 2 {
		log = append(log, api.Issue{Pc: l[i], Group: l[i+1]})
	}
	return log
}

// wantAnswer: the turn answers want, and leaves the state behind; the model says the same.
func wantAnswer(t *testing.T, machine *loom.Machine, m *model, pick, budget int, want api.Turn, state int) {
	t.Helper()
	turn := wantTurn(t, machine, m, pick, budget)
	if !reflect.DeepEqual(turn, want) {
		t.Errorf("P8: Turn(%d, %d) of %v = %+v, want %+v", pick, budget, m.list, turn, want)
	}
	if s := machine.State(); s != state {
		t.Errorf("P7: State = %d, want %d", s, state)
	}
}

func wantMemory(t *testing.T, machine *loom.Machine, want ...int) {
	t.Helper()
	if l := machine.Memory(); !reflect.DeepEqual(l, want) {
		t.Errorf("P9: Memory = %v, want %v", l, want)
	}
}

func wantRegisters(t *testing.T, machine *loom.Machine, thread int, want ...int) {
	t.Helper()
	if l, e := machine.Registers(thread); e != noError || !reflect.DeepEqual(l, want) {
		t.Errorf("P9: Registers(%d) = %v, %d, want %v", thread, l, e, want)
	}
}

func wantDone(t *testing.T, machine *loom.Machine, want ...bool) {
	t.Helper()
	for i, done := range want {
		if d, e := machine.Done(i); e != noError || d != done {
			t.Errorf("P9: Done(%d) = %v, %d, want %v", i, d, e, done)
		}
	}
}

// The document's kernels.
func odd() []api.Instr {
	return kernel(8, 0, 0, 0, 1, 1, 2, 0, 5, 2, 0, 1, 4, 2, 2, 1, 3, 2, 0, 2, 13, 2, 8, 0, 1, 3, 7, 0, 12, 0, 9, 0, 1, 3, 9, 0, 10, 3, 0, 0, 0, 0, 0, 0)
}
func again() []api.Instr { return kernel(8, 0, 0, 0, 13, 0, 0, 0, 0, 0, 0, 0) }
func meet() []api.Instr {
	return kernel(1, 1, 1, 0, 11, 1, 0, 0, 10, 1, 1, 8, 14, 0, 0, 0, 9, 2, 1, 8, 0, 0, 0, 0)
}
func waitApart() []api.Instr { return kernel(8, 0, 0, 0, 13, 0, 3, 0, 14, 0, 0, 0, 0, 0, 0, 0) }
func divide() []api.Instr    { return kernel(1, 0, 1, 0, 8, 1, 0, 0, 5, 0, 0, 1, 0, 0, 0, 0) }

func TestOddOfTheDocument(t *testing.T) {
	machine, m := begin(t, odd(), 3, 4, make([]int, 8))
	wantAnswer(t, machine, m, 0, 100, api.Turn{Steps: 11, Segments: 1,
		Log: issues(0, 7, 1, 7, 2, 7, 3, 7, 4, 7, 5, 7, 8, 5, 6, 2, 7, 2, 9, 7, 10, 7)}, over)
	wantMemory(t, machine, 0, 0, 0, 0, 9, 7, 9, 0)
	wantDone(t, machine, true, true, true)

	machine, m = begin(t, odd(), 3, 3, make([]int, 8))
	wantAnswer(t, machine, m, 0, 100, api.Turn{Steps: 11, Segments: 2,
		Log: issues(0, 7, 1, 7, 2, 7, 3, 7, 4, 7, 5, 7, 8, 2, 6, 5, 7, 5, 9, 7, 10, 7)}, over)
	wantMemory(t, machine, 0, 0, 0, 7, 9, 7, 0, 0)

	machine, m = begin(t, odd(), 3, 6, make([]int, 8))
	wantAnswer(t, machine, m, 0, 100, api.Turn{Steps: 10, Segments: 1, Fault: badAddress, Pc: 9, Thread: 2,
		Log: issues(0, 7, 1, 7, 2, 7, 3, 7, 4, 7, 5, 7, 8, 5, 6, 2, 7, 2, 9, 7)}, faulted)
	wantMemory(t, machine, 0, 0, 0, 0, 0, 0, 9, 7)
	wantDone(t, machine, false, false, false)
}

func TestSpentLoopOfTheDocument(t *testing.T) {
	machine, m := begin(t, again(), 2, 0, []int{0})
	wantAnswer(t, machine, m, 0, 9, api.Turn{Steps: 9, Log: issues(0, 3, 1, 3, 0, 1, 1, 1, 0, 1, 1, 1, 0, 1, 1, 1, 0, 1)}, spent)
	wantDone(t, machine, false, false)
}

func TestMeetingOfTheDocument(t *testing.T) {
	machine, m := begin(t, meet(), 6, 0, make([]int, 32))
	wantAnswer(t, machine, m, 1, 100, api.Turn{Warp: 1, Steps: 4, Segments: 2, Log: issues(0, 3, 1, 3, 2, 3, 3, 3)}, ready)
	wantAnswer(t, machine, m, 1, 100, api.Turn{Warp: 0, Steps: 4, Segments: 3, Log: issues(0, 15, 1, 15, 2, 15, 3, 15)}, ready)
	wantAnswer(t, machine, m, 0, 100, api.Turn{Warp: 0, Steps: 2, Segments: 2, Log: issues(4, 15, 5, 15)}, ready)
	words := make([]int, 32)
	copy(words, []int{6, 0, 0, 0, 0, 0, 0, 0, 0, 1, 2, 3, 4, 5})
	wantMemory(t, machine, words...)
	wantRegisters(t, machine, 4, 0, 0, 0, 0)
	wantRegisters(t, machine, 0, 0, 2, 2, 0)
	wantDone(t, machine, true, true, true, true, false, false)
	wantAnswer(t, machine, m, 0, 100, api.Turn{Warp: 1, Steps: 2, Segments: 1, Log: issues(4, 3, 5, 3)}, over)
}

func TestWaitsOfTheDocument(t *testing.T) {
	machine, m := begin(t, waitApart(), 2, 0, []int{0})
	wantAnswer(t, machine, m, 0, 100, api.Turn{Steps: 3, Fault: badWait, Pc: 2, Thread: 1, Log: issues(0, 3, 1, 3, 2, 2)}, faulted)
	machine, m = begin(t, waitApart(), 1, 0, []int{0})
	wantAnswer(t, machine, m, 0, 100, api.Turn{Steps: 3, Log: issues(0, 1, 1, 1, 3, 1)}, over)
}

func TestDivisionOfTheDocument(t *testing.T) {
	machine, m := begin(t, divide(), 4, 0, []int{0})
	wantAnswer(t, machine, m, 0, 100, api.Turn{Steps: 3, Fault: byZero, Pc: 2, Thread: 0, Log: issues(0, 15, 1, 15, 2, 15)}, faulted)
}

// wantNoMachine: New refuses with this error and place, and there is no machine.
func wantNoMachine(t *testing.T, image string, threads, first int, words []int, e api.Errno, at int) {
	t.Helper()
	machine, gotE, gotAt := loom.New(image, threads, first, words)
	if machine != nil || gotE != e || gotAt != at {
		t.Errorf("P6: New(%.40q, %d, %d, %d words) = %v, %d, %d, want %d, %d", image, threads, first, len(words), machine, gotE, gotAt, e, at)
	}
}

// far: numbers that no bound lets through.
func far() []int {
	return []int{-1, -2, -16, -1000, math.MinInt, math.MinInt + 1, math.MinInt32, 1001, 1 << 16, 1 << 32, 1<<32 + 1, 1 << 62, math.MaxInt - 3, math.MaxInt}
}

func TestNewRefusesWhatDecodeRefuses(t *testing.T) {
	for _, image := range []string{
		"", "\x00", "\x00\x00\x00\x00x", strings.Repeat("\x00", imageMax+4), "\x0f\x00\x00\x00", "\x00\x00\x00\x00\x0e\x00\x00\x00",
		"\x00\x00\x00\x00\x00\x00\x00\x00\x01\x04\x00\x00", "\x01\x00\x05\x00", "\x0c\x00\x01\x00", "\x08\x00\x00\x00\x0d\x00\x02\x00",
	} {
		_, e, at := loom.Decode(image)
		if e == noError {
			t.Errorf("%q is an image", image)
		}
		// It is named ahead of all that is wrong otherwise.
		for _, threads := range []int{1, 0, 17} {
			for _, first := range []int{0, -1, 1001} {
				for _, words := range [][]int{nil, {0}, make([]int, 33)} {
					wantNoMachine(t, image, threads, first, words, e, at)
				}
			}
		}
	}
}

func TestNewRefusesThreadsAndMemories(t *testing.T) {
	image := bytesOf(odd())
	for _, words := range [][]int{{0}, make([]int, maxMem), nil, {}, make([]int, maxMem+1)} {
		for _, threads := range append(far(), 0, maxThreads+1) {
			wantNoMachine(t, image, threads, 0, words, errThreads, 0)
			wantNoMachine(t, image, threads, -1, words, errThreads, 0)
		}
		for _, first := range far() {
			wantNoMachine(t, image, 1, first, words, errThreads, 0)
			wantNoMachine(t, image, maxThreads, first, words, errThreads, 0)
		}
	}
	for _, words := range [][]int{nil, {}, make([]int, 0, 5), make([]int, maxMem+1), make([]int, 256), make([]int, 257), make([]int, 10000)} {
		for _, threads := range []int{1, maxThreads} {
			wantNoMachine(t, image, threads, 0, words, errMem, 0)
			wantNoMachine(t, image, threads, maxFirst, words, errMem, 0)
		}
	}
}

func TestNewMachines(t *testing.T) {
	for threads := 1; threads <= maxThreads; threads++ {
		for count := 1; count <= maxMem; count++ {
			words := make([]int, count)
			for i := range words {
				words[i] = 100*count - 7*i
			}
			words[count-1] = math.MinInt
			for _, first := range []int{0, 1, threads, maxFirst - 1, maxFirst} {
				machine, _ := begin(t, odd(), threads, first, words)
				if s := machine.State(); s != ready {
					t.Errorf("P7: State of a new machine = %d", s)
				}
				wantMemory(t, machine, words...)
				for i := 0; i < threads; i++ {
					wantRegisters(t, machine, i, 0, 0, 0, 0)
				}
				wantDone(t, machine, make([]bool, threads)...)
			}
		}
	}
}

func TestNoSuchThread(t *testing.T) {
	for threads := 1; threads <= maxThreads; threads++ {
		machine, m := begin(t, odd(), threads, 0, make([]int, maxMem))
		for m.state == ready {
			for _, i := range append(far(), threads, threads+1, maxThreads, maxThreads+1) {
				l, e := machine.Registers(i)
				d, f := machine.Done(i)
				if l != nil || e != errThread || d || f != errThread {
					t.Errorf("P9: of thread %d of %d: %v, %d, %v, %d", i, threads, l, e, d, f)
				}
			}
			wantTurn(t, machine, m, 0, maxBudget)
		}
	}
}

func TestNames(t *testing.T) {
	for _, first := range []int{0, 1, 499, maxFirst} {
		machine, m := begin(t, kernel(8, 3, 0, 0, 0, 0, 0, 0), maxThreads, first, []int{0})
		for w := 3; w >= 0; w-- {
			wantAnswer(t, machine, m, w, 2, api.Turn{Warp: w, Steps: 2, Log: issues(0, 15, 1, 15)}, []int{over, ready, ready, ready}[w])
		}
		for i := 0; i < maxThreads; i++ {
			wantRegisters(t, machine, i, 0, 0, 0, first+i)
		}
	}
}

func TestSet(t *testing.T) {
	for b := 0; b <= 255; b++ {
		for a := 0; a < regs; a++ {
			machine, m := begin(t, kernel(1, a, b, 0, 0, 0, 0, 0), 1, 0, []int{0})
			wantTurn(t, machine, m, 0, 2)
			want := make([]int, regs)
			want[a] = b
			wantRegisters(t, machine, 0, want...)
		}
	}
}

// edges: values at which computations go wrong.
func edges() []int {
	return []int{0, 1, -1, 2, -2, 3, -3, 7, -7, 255, 1 << 31, 1<<32 - 1, -1 << 31, 3037000500, 1 << 62, -1 << 62, math.MaxInt, math.MaxInt - 1, math.MinInt, math.MinInt + 1}
}

func TestComputations(t *testing.T) {
	for op := 2; op <= 7; op++ {
		list := kernel(9, 0, 3, 0, 9, 1, 3, 1, op, 2, 0, 1, 0, 0, 0, 0)
		for _, left := range edges() {
			for _, right := range edges() {
				machine, m := begin(t, list, 1, 0, []int{left, right})
				turn := wantTurn(t, machine, m, 0, 9)
				if op == 5 && right == 0 {
					wantRegisters(t, machine, 0, left, right, 0, 0)
					if turn.Fault != byZero || turn.Pc != 2 || turn.Steps != 3 || machine.State() != faulted {
						t.Errorf("P8: %d divided by 0: %+v, State %d", left, turn, machine.State())
					}
					continue
				}
				wantRegisters(t, machine, 0, left, right, exact(op, left, right), 0)
			}
		}
	}
}

func TestComputationsByHand(t *testing.T) {
	least, most := math.MinInt, math.MaxInt
	for _, c := range [][4]int{
		{2, 3, 4, 7}, {2, most, 1, least}, {2, least, -1, most}, {2, least, least, 0},
		{3, 3, 4, -1}, {3, least, 1, most}, {3, 0, least, least}, {3, most, -1, least},
		{4, 3, -4, -12}, {4, most, 2, -2}, {4, least, -1, least}, {4, 1 << 32, 1 << 32, 0}, {4, most, most, 1},
		{5, 7, 2, 3}, {5, -7, 2, -3}, {5, 7, -2, -3}, {5, -7, -2, 3}, {5, 0, 5, 0}, {5, least, -1, least}, {5, least, 1, least}, {5, most, least, 0}, {5, least, most, -1},
		{6, 1, 2, 1}, {6, 2, 2, 0}, {6, 3, 2, 0}, {6, least, most, 1}, {6, most, least, 0}, {6, -1, 0, 1},
		{7, 2, 2, 1}, {7, 2, 3, 0}, {7, least, least, 1}, {7, least, most, 0}, {7, 0, 0, 1},
	} {
		machine, m := begin(t, kernel(9, 0, 3, 0, 9, 1, 3, 1, c[0], 2, 0, 1, 0, 0, 0, 0), 1, 0, []int{c[1], c[2]})
		wantTurn(t, machine, m, 0, 9)
		wantRegisters(t, machine, 0, c[1], c[2], c[3], 0)
	}
}

// TestAllRegisters: every operation with every choice of registers, some of them the same.
func TestAllRegisters(t *testing.T) {
	words := []int{5, 1, 3, 2, 9, 8, 7, 6}
	for op := 1; op <= 11; op++ {
		for a := 0; a < regs; a++ {
			for b := 0; b < regs; b++ {
				for c := 0; c < regs; c++ {
					x := api.Instr{Op: op, A: a, B: b, C: c}
					if !right(x, 6) {
						continue
					}
					list := append(kernel(9, 0, 3, 0, 9, 1, 3, 1, 9, 2, 3, 2, 9, 3, 3, 3), x, exit)
					wantRun(t, list, 2, 0, words, 20)
				}
			}
		}
	}
}

func TestWordsInTheSameRegister(t *testing.T) {
	// The address is what stood in the register ahead of the instruction.
	machine, m := begin(t, kernel(1, 0, 2, 0, 9, 0, 0, 1, 0, 0, 0, 0), 1, 0, []int{10, 11, 12, 13})
	wantTurn(t, machine, m, 0, 9)
	wantRegisters(t, machine, 0, 13, 0, 0, 0)
	machine, m = begin(t, kernel(1, 0, 2, 0, 10, 0, 0, 1, 0, 0, 0, 0), 1, 0, []int{10, 11, 12, 13})
	wantTurn(t, machine, m, 0, 9)
	wantMemory(t, machine, 10, 11, 12, 2)
	machine, m = begin(t, kernel(1, 0, 2, 0, 11, 0, 0, 1, 0, 0, 0, 0), 1, 0, []int{10, 11, 12, 13})
	wantTurn(t, machine, m, 0, 9)
	wantMemory(t, machine, 10, 11, 12, 15)
	wantRegisters(t, machine, 0, 13, 0, 0, 0)
}

func TestFetchGoesByTheThreadsNumbers(t *testing.T) {
	machine, m := begin(t, kernel(8, 1, 0, 0, 11, 1, 0, 0, 0, 0, 0, 0), 4, 3, []int{100})
	wantAnswer(t, machine, m, 0, 9, api.Turn{Steps: 3, Segments: 1, Log: issues(0, 15, 1, 15, 2, 15)}, over)
	wantMemory(t, machine, 118)
	for i, was := range []int{100, 103, 107, 112} {
		wantRegisters(t, machine, i, 0, was, 0, 0)
	}
	// What is raised wraps round.
	machine, m = begin(t, kernel(1, 1, 1, 0, 11, 1, 0, 0, 0, 0, 0, 0), 2, 0, []int{math.MaxInt})
	wantTurn(t, machine, m, 0, 9)
	wantMemory(t, machine, math.MinInt+1)
	wantRegisters(t, machine, 1, 0, math.MinInt, 0, 0)
}

func TestStoreAtOneWordLeavesTheLast(t *testing.T) {
	machine, m := begin(t, kernel(8, 1, 0, 0, 10, 1, 0, 2, 0, 0, 0, 0), 4, 20, []int{1, 2, 3})
	wantAnswer(t, machine, m, 0, 9, api.Turn{Steps: 3, Segments: 1, Log: issues(0, 15, 1, 15, 2, 15)}, over)
	wantMemory(t, machine, 1, 2, 23)
}

func TestAddresses(t *testing.T) {
	for op := 9; op <= 11; op++ {
		for count := 1; count <= maxMem; count++ {
			for _, base := range []int{0, 1, count - 1, count, count + 1, 31, 32, -1, -2, -31, -32, -count, math.MinInt, math.MaxInt, math.MaxInt - 31, math.MaxInt - 30, 1 << 32, -1 << 32} {
				for _, offset := range []int{0, 1, count - 1, 30, 31} {
					words := make([]int, count)
					words[0] = base
					machine, m := begin(t, kernel(9, 0, 3, 0, op, 1, 0, offset, 0, 0, 0, 0), 1, 0, words)
					turn := wantTurn(t, machine, m, 0, 9)
					// base + offset, without a sum that could wrap.
					good := base >= -offset && base < count-offset
					if good != (turn.Fault == 0) || good != (machine.State() == over) {
						t.Errorf("P8: the operation %d at %d + %d of %d words: %+v", op, base, offset, count, turn)
					}
					if !good && (turn.Fault != badAddress || turn.Pc != 1 || turn.Segments != 1) {
						t.Errorf("P8: the operation %d at %d + %d of %d words: %+v", op, base, offset, count, turn)
					}
				}
			}
		}
	}
}

// TestSegments: each thread at an address of its own; the words tell it.
func TestSegments(t *testing.T) {
	for _, c := range []struct {
		at   [4]int
		want int
	}{
		{[4]int{0, 0, 0, 0}, 1}, {[4]int{0, 1, 2, 3}, 1}, {[4]int{3, 4, 5, 6}, 2}, {[4]int{4, 5, 6, 7}, 1}, {[4]int{3, 4, 3, 4}, 2},
		{[4]int{0, 4, 8, 12}, 4}, {[4]int{12, 8, 4, 0}, 4}, {[4]int{31, 28, 27, 24}, 2}, {[4]int{31, 0, 31, 0}, 2}, {[4]int{7, 8, 15, 16}, 4}, {[4]int{7, 8, 11, 16}, 3}, {[4]int{5, 20, 6, 31}, 3},
	} {
		for op := 9; op <= 11; op++ {
			words := make([]int, maxMem)
			copy(words, c.at[:])
			// The addresses stand in words 0 to 3: a segment of their own for the Load.
			machine, m := begin(t, kernel(8, 0, 0, 0, 9, 0, 0, 0, op, 1, 0, 0, 0, 0, 0, 0), 4, 0, words)
			turn := wantTurn(t, machine, m, 0, 9)
			if turn.Segments != 1+c.want || turn.Steps != 4 {
				t.Errorf("P8: the operation %d at %v: %+v, want %d segments", op, c.at, turn, 1+c.want)
			}
		}
	}
	// What is no Load, Store or Fetch takes none, whatever its numbers.
	machine, m := begin(t, kernel(1, 1, 200, 0, 8, 0, 0, 0, 2, 2, 0, 1, 7, 3, 0, 0, 14, 0, 0, 0, 0, 0, 0, 0), 4, 0, make([]int, maxMem))
	wantAnswer(t, machine, m, 0, 9, api.Turn{Steps: 5, Log: issues(0, 15, 1, 15, 2, 15, 3, 15, 4, 15)}, ready)
}

// TestFaultsInTheMiddle: the threads ahead of the fault have done it, the others have not.
func TestFaultsInTheMiddle(t *testing.T) {
	for bad := 0; bad < lanes; bad++ {
		// Word i is the address of thread i: its own segment, or none.
		words := make([]int, maxMem)
		for i := range words {
			words[i] = 8 + 4*i
		}
		words[bad] = 32
		for op := 9; op <= 11; op++ {
			machine, m := begin(t, kernel(8, 0, 0, 0, 9, 0, 0, 0, 1, 1, 9, 0, op, 1, 0, 0, 0, 0, 0, 0), 4, 0, words)
			wantAnswer(t, machine, m, 0, 9, api.Turn{Steps: 4, Segments: 1 + bad, Fault: badAddress, Pc: 3, Thread: bad, Log: issues(0, 15, 1, 15, 2, 15, 3, 15)}, faulted)
			for i := 0; i < lanes; i++ {
				has, word := 9, words[8+4*i]
				if i < bad && op != 10 {
					has = word
				}
				wantRegisters(t, machine, i, words[i], has, 0, 0)
				if i < bad && op == 10 {
					word = 9
				}
				if i < bad && op == 11 {
					word += 9
				}
				if l := machine.Memory(); l[8+4*i] != word {
					t.Errorf("P8: behind the fault of thread %d word %d is %d, want %d", bad, 8+4*i, l[8+4*i], word)
				}
			}
			wantDone(t, machine, false, false, false, false)
		}
		// Name less bad: the thread divides by 0.
		machine, m := begin(t, kernel(8, 0, 0, 0, 1, 1, bad, 0, 3, 0, 0, 1, 1, 2, 60, 0, 5, 2, 2, 0, 0, 0, 0, 0), 4, 0, []int{0})
		wantAnswer(t, machine, m, 0, 9, api.Turn{Steps: 5, Fault: byZero, Pc: 4, Thread: bad, Log: issues(0, 15, 1, 15, 2, 15, 3, 15, 4, 15)}, faulted)
		for i := 0; i < lanes; i++ {
			has := 60
			if i < bad {
				has = 60 / (i - bad)
			}
			wantRegisters(t, machine, i, i-bad, bad, has, 0)
		}
	}
}

func TestFaultsOfOtherWarps(t *testing.T) {
	// The names 4 to 9: those of warp 1 divide by what is left of 8.
	machine, m := begin(t, kernel(8, 0, 0, 0, 1, 1, 9, 0, 3, 0, 0, 1, 5, 2, 1, 0, 0, 0, 0, 0), 7, 4, []int{0})
	wantAnswer(t, machine, m, 1, 9, api.Turn{Warp: 1, Steps: 4, Fault: byZero, Pc: 3, Thread: 5, Log: issues(0, 7, 1, 7, 2, 7, 3, 7)}, faulted)
	wantRegisters(t, machine, 4, -1, 9, -9, 0)
	wantRegisters(t, machine, 5, 0, 9, 0, 0)
	wantRegisters(t, machine, 6, 1, 9, 0, 0)
	wantRegisters(t, machine, 0, 0, 0, 0, 0)
	// BadWait names the first of the group: of warp 3 the threads 13 and 15 wait, as 12 and 14 have gone elsewhere.
	list := append(odd()[:5:5], kernel(13, 2, 7, 0, 14, 0, 0, 0, 0, 0, 0, 0)...)
	machine, m = begin(t, list, 16, 2, []int{0})
	wantAnswer(t, machine, m, 3, 9, api.Turn{Warp: 3, Steps: 7, Fault: badWait, Pc: 6, Thread: 13, Log: issues(0, 15, 1, 15, 2, 15, 3, 15, 4, 15, 5, 15, 6, 10)}, faulted)
}
