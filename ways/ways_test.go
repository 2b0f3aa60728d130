package ways_test

import (
	"reflect"
	"testing"

	"loom/api"
	"loom/ways"
)

// TestAnyList: at lists that are no kernels, too, Joins ends and does not panic, and it leaves them as they are.
func TestAnyList(t *testing.T) {
	if l := ways.Joins(nil); len(l) != 0 {
		t.Errorf("joins of nothing: %v", l)
	}
	for _, x := range []api.Instr{
		{Op: api.Set}, {Op: api.Zero, B: 1}, {Op: api.Jump, B: -1}, {Op: api.Jump, B: 1}, {Op: api.Zero, B: -5}, {Op: 99, B: 3},
	} {
		list := []api.Instr{x}
		if l := ways.Joins(list); !reflect.DeepEqual(l, []int{-1}) || list[0] != x {
			t.Errorf("joins of %v: %v, and the list is %v", x, l, list)
		}
	}
	long := make([]api.Instr, 100)
	long[0] = api.Instr{Op: api.Jump, B: 99}
	if l := ways.Joins(long); len(l) != 100 || l[0] != 99 {
		t.Errorf("joins of 100 instructions: %v", l)
	}
}
