package loom_test

import (
	"math"
	"reflect"
	"strings"
	"testing"

	"loom/api"
	"loom/loom"
)

// The bounds stand here as the document's own numbers, so that a change of package api is seen too.
const (
	maxCode  = 40
	lastOp   = 14
	target   = -1 // in a row of tops: the operand is the number of an instruction
	endExit  = 0
	endJump  = 12
	errSize  = api.Errno(1)
	errOp    = api.Errno(2)
	errFlow  = api.Errno(3)
	noError  = api.Errno(0)
	imageMax = 4 * maxCode
)

// tops: of each operation the greatest A, B, C; the least is always 0.
var tops = [lastOp + 1][3]int{
	{0, 0, 0},      // Exit
	{3, 255, 0},    // Set
	{3, 3, 3},      // Add
	{3, 3, 3},      // Sub
	{3, 3, 3},      // Mul
	{3, 3, 3},      // Div
	{3, 3, 3},      // Less
	{3, 3, 3},      // Same
	{3, 0, 0},      // Tid
	{3, 3, 31},     // Load
	{3, 3, 31},     // Store
	{3, 3, 31},     // Fetch
	{0, target, 0}, // Jump
	{3, target, 0}, // Zero
	{0, 0, 0},      // Wait
}

// top: the greatest operand number k (0 to 2) of an operation in a kernel of count instructions.
func top(op, k, count int) int {
	if tops[op][k] == target {
		return count - 1
	}
	return tops[op][k]
}

// with: the instruction op with the operand k set to n, the others 0.
func with(op, k, n int) api.Instr {
	operands := [3]int{}
	operands[k] = n
	return api.Instr{Op: op, A: operands[0], B: operands[1], C: operands[2]}
}

// right: whether the instruction may stand in a kernel of count instructions, by tops.
func right(x api.Instr, count int) bool {
	if x.Op < 0 || x.Op > lastOp {
		return false
	}
	for k, n := range [3]int{x.A, x.B, x.C} {
		if n < 0 || n > top(x.Op, k, count) {
			return false
		}
	}
	return true
}

// verdict: the error and place that the document asks for.
func verdict(list []api.Instr) (api.Errno, int) {
	if len(list) == 0 || len(list) > maxCode {
		return errSize, 0
	}
	for i, x := range list {
		if !right(x, len(list)) {
			return errOp, i
		}
	}
	last := len(list) - 1
	if list[last].Op != endExit && list[last].Op != endJump {
		return errFlow, last
	}
	return noError, 0
}

// exits: a kernel of count Exits, but for x at the place at.
func exits(count, at int, x api.Instr) []api.Instr {
	list := make([]api.Instr, count)
	list[at] = x
	return list
}

// bytesOf: the image of a list all of whose numbers are bytes.
func bytesOf(list []api.Instr) string {
	var b []byte
	for _, x := range list {
		b = append(b, byte(x.Op), byte(x.A), byte(x.B), byte(x.C))
	}
	return string(b)
}

// wantEncode: Encode(list) answers as the document asks, and leaves list as it is.
func wantEncode(t *testing.T, list []api.Instr, e api.Errno, at int) {
	t.Helper()
	before := append([]api.Instr(nil), list...)
	want := ""
	if e == noError {
		want = bytesOf(list)
	}
	s, gotE, gotAt := loom.Encode(list)
	if s != want || gotE != e || gotAt != at {
		t.Errorf("Encode(%v) = %q, %d, %d, want %q, %d, %d", list, s, gotE, gotAt, want, e, at)
	}
	if len(list) > 0 && !reflect.DeepEqual(list, before) {
		t.Errorf("Encode has changed %v into %v", before, list)
	}
}

// wantDecode: Decode(image) answers as the document asks; want is the kernel, if there is no error. What Decode refuses, Joins refuses too (P5).
func wantDecode(t *testing.T, image string, want []api.Instr, e api.Errno, at int) {
	t.Helper()
	l, gotE, gotAt := loom.Decode(image)
	if gotE != e || gotAt != at {
		t.Errorf("Decode(%.40q) = %v, %d, %d, want %d, %d", image, l, gotE, gotAt, e, at)
	}
	if e != noError && l != nil {
		t.Errorf("Decode(%.40q): %v beside the error %d", image, l, e)
	}
	if e == noError && !reflect.DeepEqual(l, want) {
		t.Errorf("Decode(%.40q) = %v, want %v", image, l, want)
	}
	if e != noError {
		wantJoinsRefused(t, image, e, at)
	}
}

// wantBoth: Encode of the list and Decode of its bytes answer alike.
func wantBoth(t *testing.T, list []api.Instr, e api.Errno, at int) {
	t.Helper()
	wantEncode(t, list, e, at)
	wantDecode(t, bytesOf(list), list, e, at)
}

func TestExamplesOfTheDocument(t *testing.T) {
	set := []api.Instr{{Op: 1, A: 0, B: 5}, {}}
	s, e, at := loom.Encode(set)
	if s != "\x01\x00\x05\x00\x00\x00\x00\x00" || e != noError || at != 0 {
		t.Errorf("P3: Encode(%v) = %q, %d, %d", set, s, e, at)
	}
	wantBoth(t, set, noError, 0)
	wantBoth(t, []api.Instr{{Op: 1, A: 4, B: 5}, {}}, errOp, 0)
	wantBoth(t, []api.Instr{{}, {Op: 1, B: 1}}, errFlow, 1)
	wantBoth(t, []api.Instr{{Op: 13, B: 2}, {}}, errOp, 0)
	wantBoth(t, []api.Instr{{C: 1}}, errOp, 0)
}

func TestOrdinaryKernels(t *testing.T) {
	odd := []api.Instr{
		{Op: 8}, {Op: 1, A: 1, B: 2}, {Op: 5, A: 2, B: 0, C: 1}, {Op: 4, A: 2, B: 2, C: 1}, {Op: 3, A: 2, B: 0, C: 2},
		{Op: 13, A: 2, B: 8}, {Op: 1, A: 3, B: 7}, {Op: 12, B: 9}, {Op: 1, A: 3, B: 9}, {Op: 10, A: 3}, {},
	}
	wantBoth(t, odd, noError, 0)
	wantBoth(t, []api.Instr{{Op: 8}, {Op: 13}, {}}, noError, 0)
	wantBoth(t, []api.Instr{{Op: 1, A: 1, B: 1}, {Op: 11, A: 1}, {Op: 10, A: 1, B: 1, C: 8}, {Op: 14}, {Op: 9, A: 2, B: 1, C: 8}, {}}, noError, 0)
	wantBoth(t, []api.Instr{{Op: 1, A: 2, B: 200}, {Op: 12, B: 1}}, noError, 0)
}

func TestHowManyInstructions(t *testing.T) {
	wantEncode(t, nil, errSize, 0)
	wantEncode(t, []api.Instr{}, errSize, 0)
	for count := 1; count <= maxCode; count++ {
		wantBoth(t, make([]api.Instr, count), noError, 0)
	}
	for _, count := range []int{maxCode + 1, maxCode + 2, 256, 296, 100000} {
		wantEncode(t, make([]api.Instr, count), errSize, 0)
	}
	// The size is named ahead of all that is wrong in the instructions.
	for _, x := range []api.Instr{{Op: 15}, {Op: -1}, {Op: 1, A: 4}, {Op: 14}} {
		wantEncode(t, exits(maxCode+1, 0, x), errSize, 0)
		wantEncode(t, exits(maxCode+1, maxCode, x), errSize, 0)
	}
}

func TestHowLongAnImage(t *testing.T) {
	for length := 0; length <= 2*imageMax; length++ {
		count := length / 4
		if length%4 == 0 && count >= 1 && count <= maxCode {
			wantDecode(t, strings.Repeat("\x00", length), make([]api.Instr, count), noError, 0)
			wantDecode(t, strings.Repeat("\xff", length), nil, errOp, 0)
			continue
		}
		wantDecode(t, strings.Repeat("\x00", length), nil, errSize, 0)
		wantDecode(t, strings.Repeat("\xff", length), nil, errSize, 0)
		wantDecode(t, strings.Repeat("\x0e", length), nil, errSize, 0)
	}
	wantDecode(t, strings.Repeat("\x00", 1<<20), nil, errSize, 0)
}

// beyond: numbers that no operand or operation may be; many of them are small numbers in their lowest byte.
func beyond() []int {
	return []int{
		-1, -2, -4, -255, -256, -257, math.MinInt, math.MinInt + 1, math.MinInt32, math.MinInt32 - 1,
		256, 257, 259, 511, 512, 1 << 16, 1 << 31, 1 << 32, 1<<32 + 1, 1 << 62, math.MaxInt - 255, math.MaxInt,
	}
}

func TestOperations(t *testing.T) {
	for op := 0; op <= lastOp; op++ {
		wantBoth(t, exits(2, 0, api.Instr{Op: op}), noError, 0)
	}
	for op := lastOp + 1; op <= 255; op++ {
		wantBoth(t, exits(2, 0, api.Instr{Op: op}), errOp, 0)
		wantBoth(t, exits(2, 1, api.Instr{Op: op}), errOp, 1)
	}
	for _, op := range beyond() {
		wantEncode(t, exits(2, 0, api.Instr{Op: op}), errOp, 0)
		wantEncode(t, exits(2, 1, api.Instr{Op: op}), errOp, 1)
	}
}

func TestOperands(t *testing.T) {
	for op := 0; op <= lastOp; op++ {
		for k := 0; k < 3; k++ {
			for n := 0; n <= 255; n++ {
				e := noError
				if n > top(op, k, 5) {
					e = errOp
				}
				at := 0
				if e == errOp {
					at = 3
				}
				wantBoth(t, exits(5, 3, with(op, k, n)), e, at)
			}
			for _, n := range beyond() {
				wantEncode(t, exits(5, 3, with(op, k, n)), errOp, 3)
			}
		}
		all := api.Instr{Op: op, A: top(op, 0, 5), B: top(op, 1, 5), C: top(op, 2, 5)}
		wantBoth(t, exits(5, 3, all), noError, 0)
	}
}

func TestTargetsCountTheInstructionsOfTheList(t *testing.T) {
	for count := 2; count <= maxCode; count++ {
		for _, op := range []int{12, 13} {
			for at := 0; at < count-1; at++ {
				wantBoth(t, exits(count, at, api.Instr{Op: op, B: 0}), noError, 0)
				wantBoth(t, exits(count, at, api.Instr{Op: op, B: at}), noError, 0)
				wantBoth(t, exits(count, at, api.Instr{Op: op, B: count - 1}), noError, 0)
				wantBoth(t, exits(count, at, api.Instr{Op: op, B: count}), errOp, at)
			}
		}
	}
	wantBoth(t, []api.Instr{{Op: 12, B: 0}}, noError, 0)
	wantBoth(t, []api.Instr{{Op: 12, B: 1}}, errOp, 0)
	// Spare room behind the list is no part of the kernel.
	long := make([]api.Instr, 3)
	long[0] = api.Instr{Op: 12, B: 2}
	wantEncode(t, long[:2], errOp, 0)
}

func TestTheLastInstruction(t *testing.T) {
	for _, count := range []int{1, 2, 3, maxCode} {
		for op := 0; op <= lastOp; op++ {
			if op == endExit || op == endJump {
				wantBoth(t, exits(count, count-1, api.Instr{Op: op}), noError, 0)
				continue
			}
			wantBoth(t, exits(count, count-1, api.Instr{Op: op}), errFlow, count-1)
		}
	}
}

func TestWhichErrorIsNamedFirst(t *testing.T) {
	// Of several wrong instructions the first.
	wantBoth(t, []api.Instr{{}, {Op: 15}, {C: 1}, {Op: 200}}, errOp, 1)
	wantBoth(t, []api.Instr{{Op: 8, B: 1}, {Op: 15}, {}}, errOp, 0)
	// A wrong instruction ahead of a wrong end, wherever it stands.
	wantBoth(t, []api.Instr{{Op: 1, A: 4}, {Op: 1}}, errOp, 0)
	wantBoth(t, []api.Instr{{}, {}, {Op: 2, C: 4}, {Op: 14}}, errOp, 2)
	wantBoth(t, []api.Instr{{}, {Op: 14, A: 1}}, errOp, 1)
	wantBoth(t, []api.Instr{{Op: 13, B: 1}}, errOp, 0)
	// An Exit or Jump that may not be is no wrong end.
	wantBoth(t, []api.Instr{{}, {Op: 12, B: 2}}, errOp, 1)
	wantBoth(t, []api.Instr{{}, {Op: 0, B: 2}}, errOp, 1)
}

// draw: the next number of a fixed row of numbers, and what the row goes on from.
func draw(seed uint64) (int, uint64) {
	seed = seed*6364136223846793005 + 1442695040888963407
	return int(seed >> 33), seed
}

// drawInstr: mostly an instruction that may be; now and then one with a number changed.
func drawInstr(seed uint64, count int) (api.Instr, uint64) {
	op, seed := draw(seed)
	op %= lastOp + 1
	var n [3]int
	for k := range n {
		n[k], seed = draw(seed)
		n[k] %= top(op, k, count) + 1
	}
	odds, seed := draw(seed)
	if odds%64 < 3 {
		n[odds%64] += odds / 64 % 40
	}
	return api.Instr{Op: op, A: n[0], B: n[1], C: n[2]}, seed
}

func TestManyKernels(t *testing.T) {
	seed := uint64(1)
	seen := [4]int{}
	for round := 0; round < 20000; round++ {
		var count int
		count, seed = draw(seed)
		list := make([]api.Instr, 1+count%maxCode)
		for i := range list {
			list[i], seed = drawInstr(seed, len(list))
			if n := list[i]; n.A > 255 || n.B > 255 || n.C > 255 {
				list[i] = api.Instr{}
			}
		}
		if round%2 == 0 {
			list[len(list)-1] = api.Instr{Op: endJump, B: round % len(list)}
		}
		e, at := verdict(list)
		seen[e]++
		wantBoth(t, list, e, at)
	}
	if seen[noError] == 0 || seen[errOp] == 0 || seen[errFlow] == 0 {
		t.Errorf("the kernels drawn are too much alike: %v", seen)
	}
}

func TestTheHandedListIsNotWrittenInto(t *testing.T) {
	mark := api.Instr{Op: 77, A: 77, B: 77, C: 77}
	for _, head := range [][]api.Instr{
		{}, {{}}, {{Op: 1, B: 5}, {}}, {{Op: 1, A: 4}, {}}, {{}, {Op: 14}}, {{Op: 12}},
	} {
		whole := make([]api.Instr, 0, 64)
		whole = append(whole, head...)
		for len(whole) < 64 {
			whole = append(whole, mark)
		}
		before := append([]api.Instr(nil), whole...)
		loom.Encode(whole[:len(head)])
		if !reflect.DeepEqual(whole, before) {
			t.Errorf("P2: Encode has written into %v: %v", before, whole)
		}
	}
}

func TestTheHandedListIsNotKept(t *testing.T) {
	list := []api.Instr{{Op: 1, B: 5}, {}}
	first, _, _ := loom.Encode(list)
	kernel, _, _ := loom.Decode(first)
	list[0] = api.Instr{Op: 8, A: 2}
	second, _, _ := loom.Encode(list)
	if first != "\x01\x00\x05\x00\x00\x00\x00\x00" || second != "\x08\x02\x00\x00\x00\x00\x00\x00" {
		t.Errorf("P2: the images are %q, %q", first, second)
	}
	if !reflect.DeepEqual(kernel, []api.Instr{{Op: 1, B: 5}, {}}) {
		t.Errorf("P2: the kernel has become %v", kernel)
	}
}

// fill writes into a list and all its spare room.
func fill(list []api.Instr) {
	room := list[:cap(list)]
	for i := range room {
		room[i] = api.Instr{Op: 77, A: 77, B: 77, C: 77}
	}
}

func TestListsThatComeOutAreTheCallersAlone(t *testing.T) {
	for _, count := range []int{1, 2, 3, 5, 17, maxCode - 1, maxCode} {
		want := exits(count, count-1, api.Instr{Op: 12, B: count - 1})
		image := bytesOf(want)
		early, _, _ := loom.Decode(image)
		written, _, _ := loom.Decode(image)
		between, _, _ := loom.Decode(image)
		fill(written)
		late, _, _ := loom.Decode(image)
		for _, l := range [][]api.Instr{early, between, late} {
			if !reflect.DeepEqual(l, want) {
				t.Errorf("P2: writing into another list gave %v, want %v", l, want)
			}
		}
		fill(early)
		fill(between)
		wantBoth(t, want, noError, 0)
	}
}

func TestAnswersHangOnTheArgumentsAlone(t *testing.T) {
	good := []api.Instr{{Op: 1, B: 5}, {}}
	long := exits(maxCode, 0, api.Instr{Op: 13, A: 3, B: maxCode - 1})
	for round := 0; round < 3; round++ {
		wantBoth(t, good, noError, 0)
		wantBoth(t, []api.Instr{{Op: 15}, {}}, errOp, 0)
		wantBoth(t, long, noError, 0)
		wantEncode(t, nil, errSize, 0)
		wantDecode(t, "", nil, errSize, 0)
		wantBoth(t, []api.Instr{{}, {Op: 14}}, errFlow, 1)
		wantDecode(t, "\x00\x00\x00", nil, errSize, 0)
	}
}

// FuzzDecode: what Decode takes, Encode gives back; and Decode's answer is the document's.
func FuzzDecode(f *testing.F) {
	f.Add("")
	f.Add("\x00\x00\x00\x00")
	f.Add("\x01\x00\x05\x00\x00\x00\x00\x00")
	f.Add("\x0d\x03\x01\x00\x0c\x00\x00\x00")
	f.Fuzz(func(t *testing.T, image string) {
		if len(image)%4 != 0 {
			wantDecode(t, image, nil, errSize, 0)
			return
		}
		var list []api.Instr
		for i := 0; i < len(image); i += 4 {
			list = append(list, api.Instr{Op: int(image[i]), A: int(image[i+1]), B: int(image[i+2]), C: int(image[i+3])})
		}
		e, at := verdict(list)
		wantBoth(t, list, e, at)
	})
}
