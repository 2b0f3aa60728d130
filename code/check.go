package code

import "loom/api"

// check tells the first error of a list as a kernel, and the number of its instruction.
func check(list []api.Instr) (api.Errno, int) {
	count := len(list)
	if count < 1 || count > api.MaxCode {
		return api.ErrSize, 0
	}
	for i, x := range list {
		if !mayBe(x, count) {
			return api.ErrOp, i
		}
	}
	// Only now: a wrong instruction anywhere is named ahead of a wrong end.
	last := list[count-1].Op
	if last != api.Exit && last != api.Jump {
		return api.ErrFlow, count - 1
	}
	return api.OK, 0
}

// mayBe tells whether an instruction may stand in a kernel of count instructions.
func mayBe(x api.Instr, count int) bool {
	switch x.Op {
	case api.Exit, api.Wait:
		return x.A == 0 && x.B == 0 && x.C == 0
	case api.Set:
		return below(x.A, api.Regs) && below(x.B, api.MaxNumber+1) && x.C == 0
	case api.Add, api.Sub, api.Mul, api.Div, api.Less, api.Same:
		return below(x.A, api.Regs) && below(x.B, api.Regs) && below(x.C, api.Regs)
	case api.Tid:
		return below(x.A, api.Regs) && x.B == 0 && x.C == 0
	case api.Load, api.Store, api.Fetch:
		return below(x.A, api.Regs) && below(x.B, api.Regs) && below(x.C, api.MaxOffset+1)
	case api.Jump:
		return x.A == 0 && below(x.B, count) && x.C == 0
	case api.Zero:
		return below(x.A, api.Regs) && below(x.B, count) && x.C == 0
	}
	return false
}

// below tells whether n is one of the numbers 0 to limit - 1.
func below(n int, limit int) bool { return n >= 0 && n < limit }
