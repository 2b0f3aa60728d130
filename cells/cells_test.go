package cells_test

import (
	"reflect"
	"testing"

	"loom/api"
	"loom/cells"
)

// TestAnyNumbers: at numbers that no machine hands in, too, nothing panics, and nothing is done where nothing can be.
func TestAnyNumbers(t *testing.T) {
	far := []int{-1 << 63, -1, 3, 4, 15, 16, 1 << 62}
	for op := -1; op <= 16; op++ {
		for _, a := range far {
			for _, b := range far {
				c := cells.New(0, []int{1, 2})
				c.Do(api.Instr{Op: op, A: a, B: b, C: b}, a, b)
				c.Zeros(a, b, a)
				if l := c.Memory(); len(l) != 2 {
					t.Errorf("the memory is %v", l)
				}
			}
		}
	}
	c := cells.New(0, []int{1})
	for _, i := range far {
		if l := c.Registers(i); len(l) != 0 && (i < 0 || i >= api.MaxThreads) {
			t.Errorf("registers of thread %d: %v", i, l)
		}
	}
}

func TestHowManyWords(t *testing.T) {
	for _, count := range []int{0, 1, 31, 32, 33, 100} {
		words := make([]int, count)
		for i := range words {
			words[i] = i + 1
		}
		c := cells.New(0, words)
		if l := c.Memory(); len(l) != min(count, api.MaxMem) || (count > 0 && !reflect.DeepEqual(l, words[:len(l)])) {
			t.Errorf("of %d words: %v", count, l)
		}
	}
}

// TestZeros: of the group alone, and of the register alone.
func TestZeros(t *testing.T) {
	c := cells.New(0, []int{0})
	c.Do(api.Instr{Op: api.Tid, A: 2}, 0, 15)
	c.Do(api.Instr{Op: api.Set, A: 1, B: 9}, 4, 5)
	for _, x := range [][4]int{{2, 0, 15, 1}, {2, 0, 14, 0}, {1, 0, 15, 15}, {1, 4, 15, 10}, {1, 4, 3, 2}, {0, 4, 6, 6}} {
		if zeros := c.Zeros(x[0], x[1], x[2]); zeros != x[3] {
			t.Errorf("zeros in register %d from thread %d on in the group %d: %d, want %d", x[0], x[1], x[2], zeros, x[3])
		}
	}
}
