// Package ways tells where the ways through a kernel come together.
package ways

import "loom/api"

// none stands where there is no instruction.
const none = -1

// Joins gives the join of each instruction of a kernel, by their numbers.
func Joins(list []api.Instr) []int {
	on := onEachWay(list)
	var joins []int
	for n := range list {
		joins = append(joins, firstMet(on, n))
	}
	return joins
}

// onEachWay tells at [d][n] whether d is another instruction than n and stands on each way from n to an Exit; from an n that comes to no Exit it tells false.
func onEachWay(list []api.Instr) [][]bool {
	ends := endsWithout(list, none)
	var on [][]bool
	for d := range list {
		// d stands on each way, if there are ways, but none without d.
		without := endsWithout(list, d)
		var row []bool
		for n := range list {
			row = append(row, n != d && marked(ends, n) && !marked(without, n))
		}
		on = append(on, row)
	}
	return on
}

// endsWithout tells of each instruction whether a way leads from it to an Exit on which the instruction avoid does not stand.
func endsWithout(list []api.Instr, avoid int) []bool {
	ends := make([]bool, len(list))
	grown := true
	// A round that finds no instruction is the last, so as many rounds as instructions are enough.
	for round := 0; grown && round < len(list); round++ {
		grown = false
		// Backward, as most ways go forward: so a round finds most of what there is.
		for n := len(list) - 1; n >= 0; n-- {
			if n != avoid && !ends[n] && endsBehind(list[n], n, ends) {
				ends[n] = true
				grown = true
			}
		}
	}
	return ends
}

// endsBehind tells whether the instruction x, of the number n, is an Exit, or one of ends comes next.
func endsBehind(x api.Instr, n int, ends []bool) bool {
	switch x.Op {
	case api.Exit:
		return true
	case api.Jump:
		return marked(ends, x.B)
	case api.Zero:
		return marked(ends, x.B) || marked(ends, n+1)
	}
	return marked(ends, n+1)
}

// marked tells whether there is an instruction n, and it is marked.
func marked(marks []bool, n int) bool { return n >= 0 && n < len(marks) && marks[n] }

// firstMet gives the instruction that is met first of those on each way from n; none, if there are none.
func firstMet(on [][]bool, n int) int {
	for d := range on {
		if marked(on[d], n) && aheadOfAll(on, n, d) {
			return d
		}
	}
	return none
}

// aheadOfAll tells whether, of the instructions on each way from n, all but d stand on each way from d too: those are met behind d.
func aheadOfAll(on [][]bool, n int, d int) bool {
	for c := range on {
		if c != d && marked(on[c], n) && !marked(on[c], d) {
			return false
		}
	}
	return true
}
