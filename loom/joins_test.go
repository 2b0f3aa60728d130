package loom_test

import (
	"reflect"
	"strings"
	"testing"

	"loom/api"
	"loom/loom"
)

const noJoin = -1

// The instructions of which the joins' kernels are made: one behind which nothing comes, one behind which the next comes, and those that go elsewhere.
var (
	exit = api.Instr{Op: 0}
	on   = api.Instr{Op: 1, A: 1, B: 9}
)

func jump(to int) api.Instr { return api.Instr{Op: 12, B: to} }
func zero(to int) api.Instr { return api.Instr{Op: 13, A: 2, B: to} }

// wantJoins: Joins of the list's image answers want, without an error.
func wantJoins(t *testing.T, what string, list []api.Instr, want []int) {
	t.Helper()
	l, e, at := loom.Joins(bytesOf(list))
	if e != noError || at != 0 || !reflect.DeepEqual(l, want) {
		t.Errorf("P5: %s: Joins of %v = %v, %d, %d, want %v", what, list, l, e, at, want)
	}
}

// wantJoinsRefused: Joins refuses the image with this error and place, and gives no list.
func wantJoinsRefused(t *testing.T, image string, e api.Errno, at int) {
	t.Helper()
	l, gotE, gotAt := loom.Joins(image)
	if l != nil || gotE != e || gotAt != at {
		t.Errorf("P5: Joins(%.40q) = %v, %d, %d, want %d, %d", image, l, gotE, gotAt, e, at)
	}
}

// nexts: the numbers of the instructions that come behind the instruction n.
func nexts(list []api.Instr, n int) []int {
	switch list[n].Op {
	case 0:
		return nil
	case 12:
		return []int{list[n].B}
	case 13:
		return []int{list[n].B, n + 1}
	}
	return []int{n + 1}
}

// allWays: each way from the end of begun on to an Exit on which no instruction stands more than times times.
func allWays(list []api.Instr, begun []int, times int) [][]int {
	n := begun[len(begun)-1]
	if list[n].Op == 0 {
		return [][]int{append([]int(nil), begun...)}
	}
	var found [][]int
	for _, next := range nexts(list, n) {
		seen := 0
		for _, i := range begun {
			if i == next {
				seen++
			}
		}
		if seen < times {
			found = append(found, allWays(list, append(begun[:len(begun):len(begun)], next), times)...)
		}
	}
	return found
}

// joinByWays: the join of n by the document's own words: of the instructions other than n that stand on each way the one that is met first, on whichever way.
func joinByWays(t *testing.T, list []api.Instr, n int, times int) int {
	t.Helper()
	all := allWays(list, []int{n}, times)
	met := make([]int, len(list))
	for _, way := range all {
		stands := make([]bool, len(list))
		for _, i := range way {
			if !stands[i] {
				met[i]++
			}
			stands[i] = true
		}
	}
	join := noJoin
	for k, way := range all {
		first := noJoin
		for _, i := range way {
			if i != n && met[i] == len(all) {
				first = i
				break
			}
		}
		if k > 0 && first != join {
			t.Fatalf("the ways of %v from %d meet %d and %d first", list, n, join, first)
		}
		join = first
	}
	return join
}

// joinsByWays: the joins of all instructions, by joinByWays.
func joinsByWays(t *testing.T, list []api.Instr, times int) []int {
	t.Helper()
	var l []int
	for n := range list {
		l = append(l, joinByWays(t, list, n, times))
	}
	return l
}

// joinsBySets: the joins by sets that shrink, for kernels with too many ways: the instructions on each way from n are n and those on each way from all that come next.
func joinsBySets(list []api.Instr) []int {
	const all = uint64(1)<<63 - 1 // of an instruction from which no Exit has been found
	sets := make([]uint64, len(list))
	for n := range sets {
		sets[n] = all
	}
	for changed := true; changed; {
		changed = false
		for n := range list {
			set := all
			for _, next := range nexts(list, n) {
				set &= sets[next]
			}
			if list[n].Op == 0 {
				set = 0
			}
			if set != all {
				set |= 1 << n
			}
			changed = changed || set != sets[n]
			sets[n] = set
		}
	}
	var l []int
	for n := range list {
		join := noJoin
		for d := range list {
			// The first of them is the one behind which all the others come.
			if sets[n] != all && d != n && sets[n]>>d&1 == 1 && sets[d]|1<<n == sets[n] {
				join = d
			}
		}
		l = append(l, join)
	}
	return l
}

func TestJoinsOfTheDocument(t *testing.T) {
	wantJoins(t, "ODD", []api.Instr{
		{Op: 8}, {Op: 1, A: 1, B: 2}, {Op: 5, A: 2, B: 0, C: 1}, {Op: 4, A: 2, B: 2, C: 1}, {Op: 3, A: 2, B: 0, C: 2},
		{Op: 13, A: 2, B: 8}, {Op: 1, A: 3, B: 7}, {Op: 12, B: 9}, {Op: 1, A: 3, B: 9}, {Op: 10, A: 3}, {},
	}, []int{1, 2, 3, 4, 5, 9, 7, 9, 9, 10, -1})
	wantJoins(t, "Tid, Zero, Exit", []api.Instr{{Op: 8}, {Op: 13}, {}}, []int{1, 2, -1})
}

func TestJoinsOfOrdinaryKernels(t *testing.T) {
	for _, c := range []struct {
		what string
		list []api.Instr
		want []int
	}{
		{"straight on", []api.Instr{on, on, on, exit}, []int{1, 2, 3, -1}},
		{"a branch with one side", []api.Instr{zero(3), on, on, on, exit}, []int{3, 2, 3, 4, -1}},
		{"a branch with two sides", []api.Instr{zero(3), on, jump(4), on, exit}, []int{4, 2, 4, 4, -1}},
		{"branches behind one another", []api.Instr{zero(2), on, zero(4), on, exit}, []int{2, 2, 4, 4, -1}},
		{"a split within each side", []api.Instr{zero(5), zero(3), on, on, jump(8), zero(7), on, on, exit}, []int{8, 3, 3, 4, 8, 7, 7, 8, -1}},
		{"splits that all join at one place", []api.Instr{zero(4), zero(4), zero(4), on, exit}, []int{4, 4, 4, 4, -1}},
		{"a loop left at its end", []api.Instr{on, on, zero(0), on, exit}, []int{1, 2, 3, 4, -1}},
		{"a loop left at its head", []api.Instr{on, zero(4), on, jump(1), exit}, []int{1, 4, 3, 1, -1}},
		{"a loop left in two places", []api.Instr{zero(5), on, zero(5), on, jump(0), exit}, []int{5, 2, 5, 4, 0, -1}},
		{"a loop in a loop", []api.Instr{on, on, zero(1), zero(0), exit}, []int{1, 2, 3, 4, -1}},
		{"a branch in a loop", []api.Instr{zero(2), on, zero(0), exit}, []int{2, 2, 3, -1}},
		{"a loop in a side", []api.Instr{zero(4), on, zero(1), on, on, exit}, []int{4, 2, 3, 4, 5, -1}},
		{"two Exits: a side that ends by itself", []api.Instr{zero(2), exit, on, exit}, []int{-1, -1, 3, -1}},
		{"a side that ends within a branch", []api.Instr{zero(4), zero(3), exit, on, exit}, []int{-1, -1, -1, 4, -1}},
	} {
		wantJoins(t, c.what, c.list, c.want)
	}
}

func TestEdgesOfJoins(t *testing.T) {
	for _, c := range []struct {
		what string
		list []api.Instr
		want []int
	}{
		{"an Exit alone", []api.Instr{exit}, []int{-1}},
		{"a Jump to itself alone", []api.Instr{jump(0)}, []int{-1}},
		{"Exits behind one another", []api.Instr{exit, exit, exit}, []int{-1, -1, -1}},
		{"the last a Jump back to an Exit", []api.Instr{exit, on, jump(0)}, []int{-1, 2, 0}},
		{"the last a Jump to itself", []api.Instr{on, exit, jump(2)}, []int{1, -1, -1}},
		{"the last a Jump back, no Exit", []api.Instr{on, on, jump(0)}, []int{-1, -1, -1}},
		{"a Jump to the next", []api.Instr{jump(1), exit}, []int{1, -1}},
		{"a Jump over all", []api.Instr{jump(3), on, on, exit}, []int{3, 2, 3, -1}},
		{"a Jump to itself in between", []api.Instr{on, jump(1), exit}, []int{-1, -1, -1}},
		{"a Zero to itself", []api.Instr{zero(0), exit}, []int{1, -1}},
		{"a Zero to itself, and on", []api.Instr{on, zero(1), on, exit}, []int{1, 2, 3, -1}},
		{"a Zero to the next", []api.Instr{zero(1), exit}, []int{1, -1}},
		{"a Zero to the next, and on", []api.Instr{zero(1), zero(2), on, exit}, []int{1, 2, 3, -1}},
		{"a Zero backward", []api.Instr{on, on, zero(1), exit}, []int{1, 2, 3, -1}},
		{"a Zero back to an Exit", []api.Instr{jump(2), exit, zero(1), exit}, []int{2, -1, -1, -1}},
		{"a Zero back to what ends at the same Exit", []api.Instr{jump(2), jump(3), zero(1), exit}, []int{2, 3, 3, -1}},
		{"a Zero with a side that never ends", []api.Instr{zero(3), on, exit, jump(3)}, []int{1, 2, -1, -1}},
		{"a Zero whose next never ends", []api.Instr{zero(2), jump(1), on, exit}, []int{2, -1, 3, -1}},
		{"a Zero both of whose sides never end", []api.Instr{zero(2), jump(1), jump(1), exit}, []int{-1, -1, -1, -1}},
		{"a side that ends or goes round for ever", []api.Instr{zero(3), on, exit, zero(5), jump(1), jump(5)}, []int{1, 2, -1, 4, 1, -1}},
		{"a loop that comes back to the Zero, which is no join of its own", []api.Instr{zero(2), jump(0), jump(0), exit}, []int{-1, -1, -1, -1}},
		{"a loop through the Zero that is left at last", []api.Instr{zero(2), jump(0), zero(0), exit}, []int{2, 0, 3, -1}},
		{"a loop entered in two places", []api.Instr{zero(2), on, zero(1), exit}, []int{2, 2, 3, -1}},
		{"a join of a smaller number", []api.Instr{jump(3), on, exit, zero(1), jump(1)}, []int{3, 2, -1, 1, 1}},
		{"the farther one has the smaller number", []api.Instr{jump(4), exit, jump(1), jump(2), zero(3), jump(2)}, []int{4, -1, 1, 2, 2, 2}},
		{"what nothing comes to", []api.Instr{exit, zero(3), on, exit}, []int{-1, 3, 3, -1}},
	} {
		wantJoins(t, c.what, c.list, c.want)
		if by := joinsByWays(t, c.list, 2); !reflect.DeepEqual(by, c.want) {
			t.Errorf("%s: by all ways the joins are %v, not %v", c.what, by, c.want)
		}
	}
}

func TestBehindEachOtherOperationComesTheNext(t *testing.T) {
	for op := 0; op <= lastOp; op++ {
		if op == 0 || op == 12 || op == 13 {
			continue
		}
		for _, x := range []api.Instr{{Op: op}, {Op: op, A: top(op, 0, 5), B: top(op, 1, 5), C: top(op, 2, 5)}} {
			wantJoins(t, "an operation behind which the next comes", []api.Instr{zero(1), x, exit, exit, exit}, []int{1, 2, -1, -1, -1})
		}
	}
	// A register is no instruction, nor is a number.
	for a := 0; a < 4; a++ {
		wantJoins(t, "Zero of any register", []api.Instr{{Op: 13, A: a, B: 3}, on, on, on, exit}, []int{3, 2, 3, 4, -1})
	}
}

// eachKernel: whether another list follows, as far as the joins tell lists apart; it changes list into it.
func eachKernel(list []api.Instr) bool {
	for i := range list {
		last := i == len(list)-1
		switch x := list[i]; {
		case x == exit && !last:
			list[i] = on
		case x == exit, x == on:
			list[i] = jump(0)
		case x.B < len(list)-1:
			list[i].B++
		case x.Op == 12 && !last:
			list[i] = zero(0)
		default:
			list[i] = exit
			continue
		}
		return true
	}
	return false
}

func TestJoinsOfAllSmallKernels(t *testing.T) {
	for count := 1; count <= 5; count++ {
		times := 3
		if count > 3 {
			times = 6 - count
		}
		list := make([]api.Instr, count)
		seen := 0
		for more := true; more; more = eachKernel(list) {
			want := joinsByWays(t, list, times)
			wantJoins(t, "a small kernel", list, want)
			if by := joinsBySets(list); !reflect.DeepEqual(by, want) {
				t.Errorf("%v: by sets the joins are %v, not %v", list, by, want)
			}
			seen++
			if t.Failed() {
				return
			}
		}
		all := 1 + count
		for i := 1; i < count; i++ {
			all *= 2 + 2*count
		}
		if seen != all {
			t.Errorf("of %d kernels of %d instructions %d were tried", all, count, seen)
		}
	}
}

// drawWays: a kernel of count instructions of which Jumps, Zeros and few Exits are the most.
func drawWays(seed uint64, count int) ([]api.Instr, uint64) {
	list := make([]api.Instr, count)
	near, seed := draw(seed)
	for i := range list {
		var kind, to int
		kind, seed = draw(seed)
		to, seed = draw(seed)
		to %= count
		if near%2 == 0 {
			to = min(max(i+to%9-3, 0), count-1)
		}
		list[i] = zero(to)
		switch kind % 16 {
		case 0:
			list[i] = jump(to)
		case 1, 2, 3, 4, 5, 6:
			list[i] = on
		}
		if kind%1600 < 16 {
			list[i] = exit
		}
	}
	list[count-1] = exit
	if near%8 == 7 {
		list[count-1] = jump(near / 8 % count)
	}
	return list, seed
}

func TestJoinsOfManyKernels(t *testing.T) {
	seed := uint64(5)
	far, missing := 0, 0
	for round := 0; round < 20000; round++ {
		var list []api.Instr
		list, seed = drawWays(seed, 1+round%maxCode)
		want := joinsBySets(list)
		wantJoins(t, "a kernel drawn", list, want)
		for n, join := range want {
			if join == noJoin {
				missing++
			} else if list[n].Op == 13 && join != n+1 && join != list[n].B {
				far++
			}
		}
	}
	if far < 1000 || missing < 1000 {
		t.Errorf("the kernels drawn are too much alike: %d joins far off, %d missing", far, missing)
	}
}

func TestJoinsOfTheLongestKernels(t *testing.T) {
	var straight, back, nested, loops, around, parted []api.Instr
	var ahead, behind, toLast, toExit, none []int
	for n := 0; n < maxCode; n++ {
		straight = append(straight, on)
		back = append(back, jump(n-1))
		nested = append(nested, zero(maxCode-1))
		loops = append(loops, zero(n))
		around = append(around, zero((n+maxCode/2)%maxCode))
		parted = append(parted, zero(0))
		ahead = append(ahead, n+1)
		behind = append(behind, n-1)
		toLast = append(toLast, maxCode-1)
		toExit = append(toExit, 0)
		none = append(none, noJoin)
	}
	last := maxCode - 1
	straight[last], nested[last], loops[last] = exit, exit, exit
	ahead[last], toLast[last] = noJoin, noJoin
	wantJoins(t, "straight on", straight, ahead)
	wantJoins(t, "all to the last", nested, toLast)
	wantJoins(t, "each to itself", loops, ahead)
	back[0] = exit
	wantJoins(t, "each one back", back, behind)
	around[last] = jump(0)
	wantJoins(t, "round and round", around, none)
	parted[0], parted[last] = exit, jump(0)
	toExit[0] = noJoin
	wantJoins(t, "all to the first", parted, toExit)
}

// TestJoinsWithWaysBeyondCounting: branches behind one another double the ways each time.
func TestJoinsWithWaysBeyondCounting(t *testing.T) {
	var list []api.Instr
	var want []int
	for n := 0; n < maxCode-1; n += 3 {
		list = append(list, zero(n+2), on, on)
		want = append(want, n+2, n+2, n+3)
	}
	list = append(list, exit)
	want = append(want, noJoin)
	wantJoins(t, "branches behind one another", list, want)
	// Each way through all of these visits an outer loop again behind each inner one.
	list, want = nil, nil
	for n := 0; n < maxCode-1; n++ {
		list = append(list, zero(0))
		want = append(want, n+1)
	}
	list = append(list, exit)
	want = append(want, noJoin)
	wantJoins(t, "loops within loops", list, want)
}

func TestJoinsRefuses(t *testing.T) {
	wantJoinsRefused(t, "", errSize, 0)
	wantJoinsRefused(t, "\x00", errSize, 0)
	wantJoinsRefused(t, "\x00\x00\x00\x00x", errSize, 0)
	wantJoinsRefused(t, strings.Repeat("\x00", imageMax+4), errSize, 0)
	wantJoinsRefused(t, strings.Repeat("\x0f", imageMax+1), errSize, 0)
	for _, list := range [][]api.Instr{
		{{Op: 15}, exit}, {exit, {Op: 255}}, {on, on, {Op: 1, A: 4}, exit}, {on, {C: 1}},
		{jump(1)}, {zero(2), exit}, {exit, jump(2)}, {on, zero(200), exit}, {{Op: 12, A: 1}}, {{Op: 15}, on}, {on, {Op: 15}, zero(9)},
		{on}, {exit, on}, {exit, zero(0)}, {exit, exit, {Op: 14}},
	} {
		e, at := verdict(list)
		if e == noError {
			t.Errorf("%v is a kernel", list)
		}
		wantJoinsRefused(t, bytesOf(list), e, at)
	}
}

// fillInts writes into a list and all its spare room.
func fillInts(list []int) {
	room := list[:cap(list)]
	for i := range room {
		room[i] = 77
	}
}

func TestJoinsAreTheCallersAlone(t *testing.T) {
	for _, count := range []int{1, 2, 3, 5, 17, maxCode - 1, maxCode} {
		list := exits(count, 0, jump(count-1))
		want := make([]int, count)
		for n := range want {
			want[n] = noJoin
		}
		if count > 1 {
			want[0] = count - 1
		}
		image := bytesOf(list)
		early, _, _ := loom.Joins(image)
		written, _, _ := loom.Joins(image)
		between, _, _ := loom.Joins(image)
		fillInts(written)
		late, _, _ := loom.Joins(image)
		for _, l := range [][]int{early, between, late} {
			if !reflect.DeepEqual(l, want) {
				t.Errorf("P2: writing into another list gave %v, want %v", l, want)
			}
		}
		fillInts(early)
		fillInts(between)
		wantJoins(t, "lists written into", list, want)
	}
}

func TestJoinsHangOnTheImageAlone(t *testing.T) {
	for round := 0; round < 3; round++ {
		wantJoins(t, "a branch", []api.Instr{zero(2), on, exit}, []int{2, 2, -1})
		wantJoinsRefused(t, "", errSize, 0)
		wantJoins(t, "an Exit", []api.Instr{exit}, []int{-1})
		wantJoinsRefused(t, "\x0e\x00\x00\x00", errFlow, 0)
		wantJoins(t, "two Exits", []api.Instr{zero(2), exit, exit}, []int{-1, -1, -1})
	}
}

// FuzzJoins: Joins refuses what Decode refuses, and its answers are those of the sets.
func FuzzJoins(f *testing.F) {
	f.Add("")
	f.Add("\x00\x00\x00\x00")
	f.Add("\x0d\x03\x00\x00\x0c\x00\x00\x00")
	f.Add("\x0d\x00\x03\x00\x01\x00\x00\x00\x0c\x00\x04\x00\x01\x00\x00\x00\x00\x00\x00\x00")
	f.Fuzz(func(t *testing.T, image string) {
		list, e, at := loom.Decode(image)
		if e != noError {
			wantJoinsRefused(t, image, e, at)
			return
		}
		wantJoins(t, "a kernel tried", list, joinsBySets(list))
	})
}
