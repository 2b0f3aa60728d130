package loom_test

import (
	"math/big"
	"reflect"
	"testing"

	"loom/api"
	"loom/loom"
)

// Numbers of the document.
const (
	errThreads api.Errno = 4
	errMem     api.Errno = 5
	errStopped api.Errno = 6
	errBudget  api.Errno = 7
	errThread  api.Errno = 8

	ready   = 0
	over    = 1
	faulted = 2
	spent   = 3

	byZero     = 1
	badAddress = 2
	badWait    = 3

	regs       = 4
	lanes      = 4
	maxThreads = 16
	maxFirst   = 1000
	maxMem     = 32
	maxBudget  = 2000
)

// model: a machine by the document's words, group within group, to hold the program against.
type model struct {
	list  []api.Instr
	joins []int
	first int
	words []int
	regs  [][regs]int
	done  []bool
	at    []int // of each warp: where its whole group goes on
	waits []bool
	state int

	turn   api.Turn
	budget int
	deep   int // the most splits that were ever open at once
	parted int // how many splits had no join
	held   int // how often all that waited were let go on
}

// How the run of a group came to stop.
const (
	ended = iota
	waiting
	fault
	out
)

func newModel(list []api.Instr, threads, first int, words []int) *model {
	return &model{
		list: list, joins: joinsBySets(list), first: first, words: append([]int(nil), words...),
		regs: make([][regs]int, threads), done: make([]bool, threads),
		at: make([]int, (threads+lanes-1)/lanes), waits: make([]bool, (threads+lanes-1)/lanes),
	}
}

// wrapped: what of a number is left in 64 bits.
func wrapped(n *big.Int) int {
	low := new(big.Int).And(n, new(big.Int).SetUint64(1<<64-1))
	return int(low.Uint64())
}

// exact: the computation op of two values, done with numbers that do not wrap.
func exact(op, left, right int) int {
	l, r, n := big.NewInt(int64(left)), big.NewInt(int64(right)), new(big.Int)
	switch op {
	case 2:
		n.Add(l, r)
	case 3:
		n.Sub(l, r)
	case 4:
		n.Mul(l, r)
	case 5:
		n.Quo(l, r)
	case 6:
		if l.Cmp(r) < 0 {
			n.SetInt64(1)
		}
	case 7:
		if l.Cmp(r) == 0 {
			n.SetInt64(1)
		}
	}
	return wrapped(n)
}

// operate: one thread does the instruction; the segment of its address, or -1, and the fault.
func (m *model) operate(x api.Instr, thread int) (int, int) {
	r := &m.regs[thread]
	switch x.Op {
	case 1:
		r[x.A] = x.B
	case 8:
		r[x.A] = m.first + thread
	case 9, 10, 11:
		sum := new(big.Int).Add(big.NewInt(int64(r[x.B])), big.NewInt(int64(x.C)))
		if sum.Sign() < 0 || sum.Cmp(big.NewInt(int64(len(m.words)))) >= 0 {
			return -1, badAddress
		}
		word := &m.words[sum.Int64()]
		was, a := *word, r[x.A]
		if x.Op == 10 {
			*word = a
		} else {
			r[x.A] = was
		}
		if x.Op == 11 {
			*word = exact(2, was, a)
		}
		return int(sum.Int64()) / 4, 0
	default:
		if x.Op == 5 && r[x.C] == 0 {
			return -1, byZero
		}
		r[x.A] = exact(x.Op, r[x.B], r[x.C])
	}
	return -1, 0
}

func (m *model) fail(kind, pc, thread int) int {
	m.turn.Fault, m.turn.Pc, m.turn.Thread = kind, pc, thread
	return fault
}

// group: the threads run from pc to the instruction to, with so many splits open around them.
func (m *model) group(threads []int, pc, to, splits int) int {
	m.deep = max(m.deep, splits)
	for {
		var live []int
		bits := 0
		for _, i := range threads {
			if !m.done[i] {
				live = append(live, i)
				bits += 1 << (i % lanes)
			}
		}
		if len(live) == 0 || pc == to {
			return ended
		}
		if m.turn.Steps == m.budget {
			return out
		}
		m.turn.Steps++
		m.turn.Log = append(m.turn.Log, api.Issue{Pc: pc, Group: bits})
		x := m.list[pc]
		switch x.Op {
		case 0:
			for _, i := range live {
				m.done[i] = true
			}
		case 12:
			pc = x.B
		case 13:
			var zeros, others []int
			for _, i := range live {
				if m.regs[i][x.A] == 0 {
					zeros = append(zeros, i)
				} else {
					others = append(others, i)
				}
			}
			switch {
			case len(others) == 0:
				pc = x.B
			case len(zeros) == 0:
				pc++
			default:
				join := m.joins[pc]
				if join == noJoin {
					m.parted++
				}
				if stop := m.group(zeros, x.B, join, splits+1); stop != ended {
					return stop
				}
				if stop := m.group(others, pc+1, join, splits+1); stop != ended {
					return stop
				}
				pc = join
			}
		case 14:
			if splits > 0 {
				return m.fail(badWait, pc, live[0])
			}
			w := live[0] / lanes
			m.at[w], m.waits[w] = pc+1, true
			return waiting
		default:
			segments := map[int]bool{}
			for _, i := range live {
				segment, kind := m.operate(x, i)
				if kind != 0 {
					m.turn.Segments += len(segments)
					return m.fail(kind, pc, i)
				}
				if segment >= 0 {
					segments[segment] = true
				}
			}
			m.turn.Segments += len(segments)
			pc++
		}
	}
}

// threadsOf: the threads of a warp.
func (m *model) threadsOf(w int) []int {
	var l []int
	for i := range m.regs {
		if i/lanes == w {
			l = append(l, i)
		}
	}
	return l
}

func (m *model) warpDone(w int) bool {
	for _, i := range m.threadsOf(w) {
		if !m.done[i] {
			return false
		}
	}
	return true
}

// Turn: by P8.
func (m *model) Turn(pick, budget int) (api.Turn, api.Errno) {
	if m.state != ready {
		return api.Turn{}, errStopped
	}
	if budget < 1 || budget > maxBudget {
		return api.Turn{}, errBudget
	}
	var may []int
	for w := range m.at {
		if !m.warpDone(w) && !m.waits[w] {
			may = append(may, w)
		}
	}
	w := may[0]
	if pick >= 0 && pick < len(may) {
		w = may[pick]
	}
	m.turn, m.budget = api.Turn{Warp: w}, budget
	switch m.group(m.threadsOf(w), m.at[w], noJoin, 0) {
	case fault:
		m.state = faulted
	case out:
		m.state = spent
	default:
		m.behind()
	}
	return m.turn, noError
}

// behind: what follows a turn in which a warp has come to be done or to wait.
func (m *model) behind() {
	all, none := true, true
	for w := range m.at {
		all = all && m.warpDone(w)
		none = none && (m.warpDone(w) || m.waits[w])
	}
	if all {
		m.state = over
	} else if none {
		m.held++
		clear(m.waits)
	}
}

// wantSame: the machine tells of itself what the model tells.
func wantSame(t *testing.T, machine *loom.Machine, m *model) {
	t.Helper()
	if s := machine.State(); s != m.state {
		t.Errorf("P7: State = %d, want %d", s, m.state)
	}
	if l := machine.Memory(); !reflect.DeepEqual(l, m.words) {
		t.Errorf("P9: Memory = %v, want %v", l, m.words)
	}
	for i := range m.regs {
		if l, e := machine.Registers(i); e != noError || !reflect.DeepEqual(l, m.regs[i][:]) {
			t.Errorf("P9: Registers(%d) = %v, %d, want %v", i, l, e, m.regs[i])
		}
		if d, e := machine.Done(i); e != noError || d != m.done[i] {
			t.Errorf("P9: Done(%d) = %v, %d, want %v", i, d, e, m.done[i])
		}
	}
	for _, i := range []int{-1, len(m.regs)} {
		l, e := machine.Registers(i)
		d, f := machine.Done(i)
		if l != nil || e != errThread || d || f != errThread {
			t.Errorf("P9: of thread %d of %d: %v, %d, %v, %d", i, len(m.regs), l, e, d, f)
		}
	}
}

// begin: a machine and its model, at their beginning.
func begin(t *testing.T, list []api.Instr, threads, first int, words []int) (*loom.Machine, *model) {
	t.Helper()
	machine, e, at := loom.New(bytesOf(list), threads, first, words)
	if machine == nil || e != noError || at != 0 {
		t.Fatalf("P6: New of %v with %d threads, first %d, words %v = %v, %d, %d", list, threads, first, words, machine, e, at)
	}
	m := newModel(list, threads, first, words)
	wantSame(t, machine, m)
	return machine, m
}

// wantTurn: the turn of the machine is the model's, and so is what it leaves behind.
func wantTurn(t *testing.T, machine *loom.Machine, m *model, pick, budget int) api.Turn {
	t.Helper()
	want, wantE := m.Turn(pick, budget)
	turn, e := machine.Turn(pick, budget)
	if e != wantE || !reflect.DeepEqual(turn, want) {
		t.Errorf("P8: Turn(%d, %d) of %v = %+v, %d, want %+v, %d", pick, budget, m.list, turn, e, want, wantE)
	}
	wantSame(t, machine, m)
	return turn
}

// wantRun: turn for turn, till it stops or has had enough turns, the machine does what the model does. It gives the model.
func wantRun(t *testing.T, list []api.Instr, threads, first int, words []int, budget int) *model {
	t.Helper()
	machine, m := begin(t, list, threads, first, words)
	for turns := 0; turns < 100 && m.state == ready && !t.Failed(); turns++ {
		wantTurn(t, machine, m, turns%5-1, budget)
	}
	if t.Failed() {
		t.Logf("the machine: %v, %d threads, first %d, words %v", list, threads, first, words)
	}
	return m
}
