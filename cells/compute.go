package cells

import "loom/api"

// compute gives what a computation makes of two values, or the fault.
func compute(op int, left int, right int) (int, int) {
	switch op {
	case api.Add:
		return left + right, api.NoFault
	case api.Sub:
		return left - right, api.NoFault
	case api.Mul:
		return left * right, api.NoFault
	case api.Div:
		if right == 0 {
			return 0, api.ByZero
		}
		return left / right, api.NoFault
	case api.Less:
		return oneIf(left < right), api.NoFault
	case api.Same:
		return oneIf(left == right), api.NoFault
	}
	return 0, api.NoFault
}

// oneIf gives 1 for what is so, else 0.
func oneIf(so bool) int {
	if so {
		return 1
	}
	return 0
}

// sizeOf counts the bits of a set.
func sizeOf(set int) int {
	size := 0
	for ; set > 0; set >>= 1 {
		size += set & 1
	}
	return size
}
