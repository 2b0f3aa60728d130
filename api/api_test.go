package api

import "testing"

// TestNumbers: the numbers that the document names.
func TestNumbers(t *testing.T) {
	errors := []Errno{OK, ErrSize, ErrOp, ErrFlow, ErrThreads, ErrMem, ErrStopped, ErrBudget, ErrThread}
	for i, e := range errors {
		if int(e) != i {
			t.Errorf("error %d is %d", i, e)
		}
	}
	operations := []int{Exit, Set, Add, Sub, Mul, Div, Less, Same, Tid, Load, Store, Fetch, Jump, Zero, Wait}
	for i, op := range operations {
		if op != i {
			t.Errorf("operation %d is %d", i, op)
		}
	}
	bounds := [...]int{MaxCode, Regs, Lanes, MaxThreads, MaxFirst, MaxOffset, MaxNumber, MaxMem, Segment, MaxBudget}
	if bounds != [...]int{40, 4, 4, 16, 1000, 31, 255, 32, 4, 2000} {
		t.Errorf("the bounds are %v", bounds)
	}
}
