package fin

import (
	"math"
	"math/big"
	"math/rand"
	"slices"
	"testing"

	"penfold/api"
)

// The five ops, in short.
func sayOp(a int) api.FOp     { return api.FOp{Op: 0, A: a} }
func clearOp(a int) api.FOp   { return api.FOp{Op: 1, A: a} }
func moveOp(a, b int) api.FOp { return api.FOp{Op: 2, A: a, B: b} }
func skipOp(a, b int) api.FOp { return api.FOp{Op: 3, A: a, B: b} }
func holdOp() api.FOp         { return api.FOp{Op: 4} }

func prog(ops ...api.FOp) []api.FOp   { return ops }
func row(slots ...uint64) []uint64    { return slots }
func list(l ...[]api.FOp) [][]api.FOp { return l }

// odd are numbers about which an op, a place or a tag may go wrong.
func odd() []int {
	return []int{math.MinInt, math.MinInt + 1, math.MinInt + 9, -1 << 32, 1 - 1<<32, -256, -100, -99, -9, -8, -7, -6, -5, -2, -1, 0, 1, 2, 3, 4, 5, 6, 7, 8, 9, 10, 98, 99, 100, 101, 255, 256, 257, 1 << 32, 1<<32 + 1, math.MaxInt - 9, math.MaxInt - 2, math.MaxInt - 1, math.MaxInt}
}

// What stands in the room behind the last op, slot or program: nobody may read it, or write over it.
var strayOp = api.FOp{Op: 0, A: 77}

const straySlot = 0xfeedfeed

// roomyOps and roomySlots are lists of their own with the same elements, and with room behind them.
func roomyOps(l []api.FOp) []api.FOp {
	return append(slices.Clone(l), strayOp, strayOp, strayOp)[:len(l)]
}

func roomySlots(l []uint64) []uint64 {
	return append(slices.Clone(l), straySlot, straySlot, straySlot)[:len(l)]
}

// roomyList is a list of programs of its own, each of them and the list with room behind it.
func roomyList(l [][]api.FOp) [][]api.FOp {
	var own [][]api.FOp
	for _, ops := range l {
		own = append(own, roomyOps(ops))
	}
	return append(own, prog(strayOp), prog(strayOp))[:len(l)]
}

func wantOps(t *testing.T, own, l []api.FOp) {
	t.Helper()
	if behind := own[len(l) : len(l)+3]; !slices.Equal(own, l) || !slices.Equal(behind, prog(strayOp, strayOp, strayOp)) {
		t.Fatalf("the ops %v became %v, with %v behind them", l, own, behind)
	}
}

func wantSlots(t *testing.T, own, l []uint64) {
	t.Helper()
	if behind := own[len(l) : len(l)+3]; !slices.Equal(own, l) || !slices.Equal(behind, row(straySlot, straySlot, straySlot)) {
		t.Fatalf("the slots %v became %v, with %v behind them", l, own, behind)
	}
}

func wantList(t *testing.T, own, l [][]api.FOp) {
	t.Helper()
	if len(own) != len(l) {
		t.Fatalf("%d programs became %d", len(l), len(own))
	}
	for i := range l {
		wantOps(t, own[i], l[i])
	}
	for _, ops := range own[len(l) : len(l)+2] {
		if !slices.Equal(ops, prog(strayOp)) {
			t.Fatalf("%v stands behind the programs", ops)
		}
	}
}

// told is all that Step or Run tells: at is the next place, or how many steps.
type told struct {
	at    int
	slots []uint64
	said  []int
	held  bool
}

func (x told) same(y told) bool {
	return x.at == y.at && slices.Equal(x.slots, y.slots) && slices.Equal(x.said, y.said) && x.held == y.held
}

// mayBe is what the document says of an op of Right, told again in another way.
func mayBe(o api.FOp) bool {
	switch o.Op {
	case 0:
		return o.A >= 0 && o.A <= 99 && o.B == 0
	case 1:
		return o.A >= 0 && o.A <= 5 && o.B == 0
	case 2:
		return o.A >= 0 && o.A <= 5 && o.B >= 0 && o.B <= 5
	case 3:
		return o.A >= 0 && o.A <= 5 && o.B >= 0 && o.B <= 8
	case 4:
		return o.A == 0 && o.B == 0
	}
	return false
}

// behind is where a skip leads: the sum; the greatest number, if that is none.
func behind(at, b int) int {
	sum := big.NewInt(int64(at))
	sum.Add(sum, big.NewInt(1))
	sum.Add(sum, big.NewInt(int64(b)))
	if !sum.IsInt64() {
		return math.MaxInt
	}
	return int(sum.Int64())
}

// step is what the document says of Step, told again in another way.
func step(ops []api.FOp, at int, slots []uint64) told {
	x := told{at: at, slots: slices.Clone(slots)}
	if at < 0 || at >= len(ops) {
		return x
	}
	o := ops[at]
	isA := o.A >= 0 && o.A < len(slots)
	isB := o.B >= 0 && o.B < len(slots)
	x.at = at + 1
	switch {
	case o.Op == 0:
		x.said = []int{o.A}
	case o.Op == 1 && isA:
		x.slots[o.A] = 0
	case o.Op == 2 && isA && isB:
		x.slots[o.A] = slots[o.B]
	case o.Op == 3 && isA && slots[o.A] == 0:
		x.at = behind(at, o.B)
	case o.Op == 4:
		x.held = true
	}
	return x
}

// run is Step after Step, of the package's own, from 0 on; no more of them than there are ops.
func run(ops []api.FOp, slots []uint64) told {
	x := told{slots: slots}
	for at := 0; at >= 0 && at < len(ops) && x.at < len(ops); x.at++ {
		next, then, said, held := Step(ops, at, x.slots)
		at, x.slots = next, then
		x.said = append(x.said, said...)
		x.held = x.held || held
	}
	return x
}

// checkStep holds Step against the document, and what was handed in against what it was.
func checkStep(t *testing.T, ops []api.FOp, at int, slots []uint64) {
	t.Helper()
	ownOps, ownSlots := roomyOps(ops), roomySlots(slots)
	var x told
	x.at, x.slots, x.said, x.held = Step(ownOps, at, ownSlots)
	if want := step(ops, at, slots); !x.same(want) {
		t.Fatalf("Step(%v, %d, %v) = %v; want %v", ops, at, slots, x, want)
	}
	wantOps(t, ownOps, ops)
	wantSlots(t, ownSlots, slots)
}

// checkRun holds Run against its steps and their bound, and each step against the document.
func checkRun(t *testing.T, ops []api.FOp, slots []uint64) {
	t.Helper()
	ownOps, ownSlots := roomyOps(ops), roomySlots(slots)
	var x told
	x.slots, x.said, x.held, x.at = Run(ownOps, ownSlots)
	if want := run(ops, slots); !x.same(want) {
		t.Fatalf("Run(%v, %v) = %v; want %v", ops, slots, x, want)
	}
	if x.at < 0 || x.at > len(ops) {
		t.Fatalf("Run(%v, %v) has %d steps", ops, slots, x.at)
	}
	wantOps(t, ownOps, ops)
	wantSlots(t, ownSlots, slots)
	for at := -1; at <= len(ops); at++ {
		checkStep(t, ops, at, slots)
	}
}

// wantRun holds Run against what is written down, and all else of it.
func wantRun(t *testing.T, ops []api.FOp, slots []uint64, want told) {
	t.Helper()
	var x told
	x.slots, x.said, x.held, x.at = Run(ops, slots)
	if !x.same(want) {
		t.Errorf("Run(%v, %v) = %v; want %v", ops, slots, x, want)
	}
	checkRun(t, ops, slots)
}

// P10.2: the chapter's example.
func TestExample(t *testing.T) {
	ops := prog(skipOp(0, 1), sayOp(7), sayOp(8))
	slots, said, held, steps := Run(ops, row(0, 5))
	if !slices.Equal(slots, row(0, 5)) || !slices.Equal(said, []int{8}) || held || steps != 2 {
		t.Errorf("Run = %v, %v, %v, %d; want [0 5], [8], false, 2", slots, said, held, steps)
	}
	if !Right(list(ops)) {
		t.Error("the example is not right")
	}
}

// P10.1: the bounds of each kind, as the document writes them.
func TestRightEdges(t *testing.T) {
	for _, x := range []struct {
		o    api.FOp
		want bool
	}{
		{sayOp(0), true}, {sayOp(99), true}, {sayOp(100), false}, {sayOp(-1), false},
		{api.FOp{Op: 0, A: 3, B: 1}, false}, {api.FOp{Op: 0, A: 3, B: -1}, false},
		{clearOp(0), true}, {clearOp(5), true}, {clearOp(6), false}, {clearOp(-1), false},
		{api.FOp{Op: 1, A: 3, B: 1}, false}, {api.FOp{Op: 1, A: 3, B: -1}, false},
		{moveOp(0, 0), true}, {moveOp(5, 5), true}, {moveOp(0, 5), true}, {moveOp(5, 0), true},
		{moveOp(6, 0), false}, {moveOp(0, 6), false}, {moveOp(-1, 0), false}, {moveOp(0, -1), false},
		{skipOp(0, 0), true}, {skipOp(5, 8), true}, {skipOp(0, 8), true}, {skipOp(5, 0), true},
		{skipOp(0, 9), false}, {skipOp(0, -1), false}, {skipOp(6, 0), false}, {skipOp(-1, 0), false},
		{holdOp(), true}, {api.FOp{Op: 4, A: 1}, false}, {api.FOp{Op: 4, B: 1}, false}, {api.FOp{Op: 4, A: -1}, false}, {api.FOp{Op: 4, B: -1}, false},
		{api.FOp{Op: 5}, false}, {api.FOp{Op: 255}, false},
	} {
		if told := Right(list(prog(x.o))); told != x.want {
			t.Errorf("Right of %v = %v", x.o, told)
		}
	}
}

// P10.1: each op, with each two odd numbers, alone, and as the last one of the last program that there may be.
func TestRightEachOp(t *testing.T) {
	for op := range 256 {
		for _, a := range odd() {
			for _, b := range odd() {
				o := api.FOp{Op: uint8(op), A: a, B: b}
				if told := Right(list(prog(o))); told != mayBe(o) {
					t.Fatalf("Right of %v = %v", o, told)
				}
				if op > 8 {
					continue
				}
				l := make([][]api.FOp, 8)
				l[7] = append(make([]api.FOp, 7), o)
				if told := Right(l); told != mayBe(o) {
					t.Fatalf("Right of %v behind others = %v", o, told)
				}
			}
		}
	}
}

// P10.1: one op that may not be, wherever it stands, is one too many.
func TestRightEachPlace(t *testing.T) {
	for i := range 8 {
		for k := range 8 {
			l := make([][]api.FOp, 8)
			for j := range l {
				l[j] = make([]api.FOp, 8)
			}
			if !Right(l) {
				t.Fatal("eight programs of eight ops are not right")
			}
			l[i][k] = holdOp()
			if !Right(l) {
				t.Errorf("a hold at %d of %d is not right", k, i)
			}
			l[i][k].A = 1
			if Right(l) {
				t.Errorf("a hold of 1 at %d of %d is right", k, i)
			}
		}
	}
}

// P10.1: none to eight programs of none to eight ops each; no more, be they empty or not.
func TestRightHowMany(t *testing.T) {
	if !Right(nil) || !Right(list()) || !Right(list(nil)) || !Right(list(prog())) {
		t.Error("no programs, or one of no ops, are not right")
	}
	for n := range 40 {
		if told := Right(make([][]api.FOp, n)); told != (n <= 8) {
			t.Errorf("Right of %d programs = %v", n, told)
		}
		for _, o := range prog(sayOp(3), clearOp(1), moveOp(1, 2), skipOp(0, 8), holdOp()) {
			ops := slices.Repeat(prog(o), n)
			for _, l := range [][][]api.FOp{list(ops), list(nil, nil, ops), list(ops, nil), list(nil, nil, nil, nil, nil, nil, nil, ops)} {
				if told := Right(l); told != (n <= 8) {
					t.Errorf("Right of %d ops %v = %v", n, o, told)
				}
			}
			if told := Right(slices.Repeat(list(prog(o, o)), n)); told != (n <= 8) {
				t.Errorf("Right of %d programs of %v = %v", n, o, told)
			}
		}
	}
	if Right(make([][]api.FOp, 100000)) || Right(list(make([]api.FOp, 100000))) {
		t.Error("very many are right")
	}
}

// R7: Right and Of read what there is, not the room behind it, and change nothing.
func TestRightAndOfChangeNothing(t *testing.T) {
	for _, l := range [][][]api.FOp{nil, list(nil), list(prog(sayOp(1)), nil, prog(holdOp(), skipOp(0, 2))), list(prog(sayOp(-1))), make([][]api.FOp, 8), make([][]api.FOp, 9), list(make([]api.FOp, 8)), list(make([]api.FOp, 9))} {
		own := roomyList(l)
		if Right(own) != Right(l) {
			t.Errorf("Right of %v hangs on the room behind it", l)
		}
		wantList(t, own, l)
		for _, tag := range odd() {
			if !slices.Equal(Of(own, tag), Of(l, tag)) {
				t.Errorf("Of(%v, %d) hangs on the room behind it", l, tag)
			}
		}
		wantList(t, own, l)
	}
	bad := list(prog(sayOp(1)), prog(api.FOp{Op: 9}))
	if !Right(bad[:1]) {
		t.Error("Right reads what is behind the last program")
	}
	if ops := Of(bad[:1], 1); len(ops) != 0 {
		t.Errorf("Of reads what is behind the last program: %v", ops)
	}
	ops := prog(sayOp(1), api.FOp{Op: 9})
	if !Right(list(ops[:1])) {
		t.Error("Right reads what is behind the last op")
	}
}

// P10.1: each program at its place; none one before, one behind, and elsewhere, be the programs right or not.
func TestOf(t *testing.T) {
	for _, n := range []int{0, 1, 2, 3, 7, 8, 9, 300} {
		var l [][]api.FOp
		for i := range n {
			l = append(l, prog(sayOp(1000+i), api.FOp{Op: 99, A: -i}))
		}
		for i := range n {
			if told := Of(l, i); !slices.Equal(told, l[i]) {
				t.Errorf("Of %d of %d = %v", i, n, told)
			}
		}
		for _, tag := range append(odd(), n, n+1, -n, -n-1) {
			if tag >= 0 && tag < n {
				continue
			}
			if told := Of(l, tag); len(told) != 0 {
				t.Errorf("Of %d of %d = %v; want none", tag, n, told)
			}
		}
	}
	for _, l := range [][][]api.FOp{list(nil), list(prog()), list(nil, prog(holdOp()))} {
		if told := Of(l, 0); len(told) != 0 {
			t.Errorf("Of(%v, 0) = %v; want none", l, told)
		}
	}
	l := list(nil, prog(holdOp()), prog(sayOp(1), sayOp(2)))
	if !slices.Equal(Of(l, 1), prog(holdOp())) || !slices.Equal(Of(l, 2), prog(sayOp(1), sayOp(2))) || len(Of(l, 3)) != 0 || len(Of(l, -1)) != 0 {
		t.Errorf("Of(%v)", l)
	}
}

// P10.2: each op alone, over no slots, one, two and six.
func TestStepOfEach(t *testing.T) {
	six := row(10, 0, 30, 40, 0, 60)
	for _, x := range []struct {
		o     api.FOp
		slots []uint64
		want  told
	}{
		{sayOp(0), nil, told{1, nil, []int{0}, false}},
		{sayOp(99), row(4), told{1, row(4), []int{99}, false}},
		{sayOp(5), six, told{1, six, []int{5}, false}},
		{clearOp(0), nil, told{1, nil, nil, false}},
		{clearOp(0), row(4), told{1, row(0), nil, false}},
		{clearOp(0), row(0), told{1, row(0), nil, false}},
		{clearOp(1), row(4), told{1, row(4), nil, false}},
		{clearOp(5), six, told{1, row(10, 0, 30, 40, 0, 0), nil, false}},
		{clearOp(6), six, told{1, six, nil, false}},
		{clearOp(-1), six, told{1, six, nil, false}},
		{moveOp(0, 0), nil, told{1, nil, nil, false}},
		{moveOp(0, 0), row(4), told{1, row(4), nil, false}},
		{moveOp(0, 1), row(4, 5), told{1, row(5, 5), nil, false}},
		{moveOp(1, 0), row(4, 5), told{1, row(4, 4), nil, false}},
		{moveOp(5, 0), six, told{1, row(10, 0, 30, 40, 0, 10), nil, false}},
		{moveOp(0, 5), six, told{1, row(60, 0, 30, 40, 0, 60), nil, false}},
		{moveOp(3, 1), six, told{1, row(10, 0, 30, 0, 0, 60), nil, false}},
		{moveOp(3, 3), six, told{1, six, nil, false}},
		{moveOp(0, 6), six, told{1, six, nil, false}},
		{moveOp(6, 0), six, told{1, six, nil, false}},
		{moveOp(6, 7), six, told{1, six, nil, false}},
		{moveOp(0, -1), six, told{1, six, nil, false}},
		{moveOp(-1, 0), six, told{1, six, nil, false}},
		{moveOp(0, 1), row(4), told{1, row(4), nil, false}},
		{moveOp(1, 0), row(4), told{1, row(4), nil, false}},
		{skipOp(0, 3), nil, told{1, nil, nil, false}},
		{skipOp(0, 0), row(0), told{1, row(0), nil, false}},
		{skipOp(0, 3), row(0), told{4, row(0), nil, false}},
		{skipOp(0, 8), row(0), told{9, row(0), nil, false}},
		{skipOp(0, 3), row(4), told{1, row(4), nil, false}},
		{skipOp(0, 3), row(1 << 63), told{1, row(1 << 63), nil, false}},
		{skipOp(1, 3), row(0), told{1, row(0), nil, false}},
		{skipOp(4, 8), six, told{9, six, nil, false}},
		{skipOp(5, 8), six, told{1, six, nil, false}},
		{skipOp(6, 3), six, told{1, six, nil, false}},
		{skipOp(-1, 3), six, told{1, six, nil, false}},
		{holdOp(), nil, told{1, nil, nil, true}},
		{holdOp(), row(4), told{1, row(4), nil, true}},
		{holdOp(), six, told{1, six, nil, true}},
		{api.FOp{Op: 5}, six, told{1, six, nil, false}},
		{api.FOp{Op: 255, A: 1, B: 1}, six, told{1, six, nil, false}},
	} {
		var s told
		s.at, s.slots, s.said, s.held = Step(prog(x.o), 0, x.slots)
		if !s.same(x.want) {
			t.Errorf("Step of %v over %v = %v; want %v", x.o, x.slots, s, x.want)
		}
		// Behind others, with others behind it: as alone, but further on.
		at := 3
		ops := prog(sayOp(1), holdOp(), clearOp(0), x.o, sayOp(2), holdOp())
		s.at, s.slots, s.said, s.held = Step(ops, at, x.slots)
		x.want.at += at
		if !s.same(x.want) {
			t.Errorf("Step at %d of %v over %v = %v; want %v", at, ops, x.slots, s, x.want)
		}
		checkStep(t, prog(x.o), 0, x.slots)
		checkStep(t, ops, at, x.slots)
	}
}

// P10.2: the first place and the last one; of one before and one behind, and further, nothing.
func TestStepPlaces(t *testing.T) {
	slots := row(7, 0)
	for n := range 12 {
		var ops []api.FOp
		for i := range n {
			ops = append(ops, sayOp(i))
		}
		for i := range n {
			at, then, said, held := Step(ops, i, slots)
			if at != i+1 || !slices.Equal(then, slots) || !slices.Equal(said, []int{i}) || held {
				t.Errorf("Step at %d of %d = %d, %v, %v, %v", i, n, at, then, said, held)
			}
		}
		for _, i := range append(odd(), n, n+1, -n, -n-1) {
			if i >= 0 && i < n {
				continue
			}
			for _, o := range prog(sayOp(1), clearOp(0), moveOp(0, 1), skipOp(1, 2), holdOp()) {
				at, then, said, held := Step(slices.Repeat(prog(o), n), i, slots)
				if at != i || !slices.Equal(then, slots) || len(said) != 0 || held {
					t.Errorf("Step at %d of %d ops %v = %d, %v, %v, %v", i, n, o, at, then, said, held)
				}
			}
		}
	}
}

// P10.2: ops that Right refuses do what the words say of them, as far as there are such slots.
func TestStepOfWrongOps(t *testing.T) {
	rows := [][]uint64{nil, row(0), row(8), row(0, 8), row(8, 0), row(1, 0, 3, 0, 5, 0), row(0, 2, 0, 4, 0, 6, 0, 8, 9, 10)}
	for op := range 8 {
		for _, a := range odd() {
			for _, b := range odd() {
				o := api.FOp{Op: uint8(op), A: a, B: b}
				for _, slots := range rows {
					checkStep(t, prog(o), 0, slots)
					checkStep(t, prog(holdOp(), o, holdOp()), 1, slots)
				}
			}
		}
	}
	for op := 5; op < 256; op++ {
		for _, slots := range rows {
			at, then, said, held := Step(prog(holdOp(), api.FOp{Op: uint8(op), A: 0, B: 1}), 1, slots)
			if at != 2 || !slices.Equal(then, slots) || len(said) != 0 || held {
				t.Errorf("Step of the op %d over %v = %d, %v, %v, %v", op, slots, at, then, said, held)
			}
		}
	}
	for _, a := range odd() {
		if _, _, said, _ := Step(prog(api.FOp{Op: 0, A: a, B: 3}), 0, nil); !slices.Equal(said, []int{a}) {
			t.Errorf("a say of %d says %v", a, said)
		}
		if _, _, _, held := Step(prog(api.FOp{Op: 4, A: a, B: a}), 0, nil); !held {
			t.Errorf("a hold of %d does not hold", a)
		}
	}
}

// P10.2: where a skip leads, by numbers within their bounds, beyond them, and below 0; a sum that is no number is no op's place.
func TestSkipLeads(t *testing.T) {
	ops := append(slices.Repeat(prog(holdOp()), 5), skipOp(0, 0))
	for _, x := range []struct{ b, want int }{
		{0, 6}, {1, 7}, {8, 14}, {9, 15}, {100, 106}, {1 << 32, 1<<32 + 6},
		{-1, 5}, {-2, 4}, {-5, 1}, {-6, 0}, {-7, -1}, {-100, -94},
		{math.MinInt, math.MinInt + 6},
		{math.MaxInt - 7, math.MaxInt - 1}, {math.MaxInt - 6, math.MaxInt}, {math.MaxInt - 5, math.MaxInt}, {math.MaxInt - 1, math.MaxInt}, {math.MaxInt, math.MaxInt},
	} {
		ops[5].B = x.b
		if at, _, _, _ := Step(ops, 5, row(0)); at != x.want {
			t.Errorf("a skip at 5 by %d leads to %d; want %d", x.b, at, x.want)
		}
		if at, _, _, _ := Step(ops, 5, row(9)); at != 6 {
			t.Errorf("a skip at 5 by %d over a slot that is not 0 leads to %d; want 6", x.b, at)
		}
	}
}

// P10.2: programs, run to their ends.
func TestRun(t *testing.T) {
	six := row(10, 0, 30, 40, 0, 60)
	for _, x := range []struct {
		ops   []api.FOp
		slots []uint64
		want  told
	}{
		{nil, nil, told{}},
		{nil, row(4), told{slots: row(4)}},
		{prog(), six, told{slots: six}},
		{prog(sayOp(3)), nil, told{1, nil, []int{3}, false}},
		{prog(sayOp(3), sayOp(0), sayOp(99), sayOp(3)), row(1), told{4, row(1), []int{3, 0, 99, 3}, false}},
		{prog(holdOp()), nil, told{1, nil, nil, true}},
		{prog(holdOp(), sayOp(1)), nil, told{2, nil, []int{1}, true}},
		{prog(sayOp(1), holdOp()), nil, told{2, nil, []int{1}, true}},
		{prog(holdOp(), holdOp(), sayOp(1), holdOp()), nil, told{4, nil, []int{1}, true}},
		{prog(skipOp(0, 1), holdOp(), sayOp(1)), row(0), told{2, row(0), []int{1}, false}},
		{prog(skipOp(0, 1), holdOp(), sayOp(1)), row(2), told{3, row(2), []int{1}, true}},
		// A skip to the last op, to just behind it, and further; over a slot that there is not.
		{prog(skipOp(0, 2), sayOp(1), sayOp(2), sayOp(3)), row(0), told{2, row(0), []int{3}, false}},
		{prog(skipOp(0, 3), sayOp(1), sayOp(2), sayOp(3)), row(0), told{1, row(0), nil, false}},
		{prog(skipOp(0, 4), sayOp(1), sayOp(2), sayOp(3)), row(0), told{1, row(0), nil, false}},
		{prog(skipOp(0, 8), sayOp(1), sayOp(2), sayOp(3)), row(0), told{1, row(0), nil, false}},
		{prog(skipOp(1, 8), sayOp(1), sayOp(2), sayOp(3)), row(0), told{4, row(0), []int{1, 2, 3}, false}},
		{prog(skipOp(0, 0), sayOp(1)), row(0), told{2, row(0), []int{1}, false}},
		{prog(sayOp(1), skipOp(0, 8)), row(0), told{2, row(0), []int{1}, false}},
		{prog(skipOp(0, 1), sayOp(1), skipOp(1, 1), sayOp(2), sayOp(3)), row(0, 0), told{3, row(0, 0), []int{3}, false}},
		{prog(skipOp(0, 1), sayOp(1), skipOp(1, 1), sayOp(2), sayOp(3)), row(0, 7), told{4, row(0, 7), []int{2, 3}, false}},
		// Moves and clears are seen by what comes behind them.
		{prog(moveOp(0, 0), sayOp(1)), row(5), told{2, row(5), []int{1}, false}},
		{prog(clearOp(0), skipOp(0, 1), sayOp(1), sayOp(2)), row(5), told{3, row(0), []int{2}, false}},
		{prog(moveOp(0, 1), skipOp(0, 1), sayOp(1), sayOp(2)), row(0, 5), told{4, row(5, 5), []int{1, 2}, false}},
		{prog(clearOp(1), moveOp(0, 1), skipOp(0, 1), sayOp(1), sayOp(2)), row(4, 5), told{4, row(0, 0), []int{2}, false}},
		{prog(clearOp(0), moveOp(0, 1), skipOp(0, 1), sayOp(1), sayOp(2)), row(4, 5), told{5, row(5, 5), []int{1, 2}, false}},
		{prog(moveOp(2, 0), moveOp(0, 1), moveOp(1, 2), clearOp(2)), row(4, 5, 6), told{4, row(5, 4, 0), nil, false}},
		{prog(moveOp(0, 5), moveOp(5, 0), clearOp(3)), six, told{3, row(60, 0, 30, 0, 0, 60), nil, false}},
		// Slots that there are not, and ops that are none.
		{prog(moveOp(0, 2), moveOp(2, 0), clearOp(2), clearOp(5)), row(4, 5), told{4, row(4, 5), nil, false}},
		{prog(api.FOp{Op: 5}, api.FOp{Op: 200, A: 1}, sayOp(1)), row(4, 5), told{3, row(4, 5), []int{1}, false}},
		{slices.Repeat(prog(sayOp(6)), 8), six, told{8, six, []int{6, 6, 6, 6, 6, 6, 6, 6}, false}},
		{prog(clearOp(0), clearOp(1), clearOp(2), clearOp(3), clearOp(4), clearOp(5), holdOp(), sayOp(8)), six, told{8, make([]uint64, 6), []int{8}, true}},
	} {
		wantRun(t, x.ops, x.slots, x.want)
	}
}

// P10.3, R1: a skip that does not lead further: it is done as the words say, till there were as many steps as ops.
func TestRunLedBack(t *testing.T) {
	for _, x := range []struct {
		ops   []api.FOp
		slots []uint64
		want  told
	}{
		{prog(skipOp(0, -1)), row(0), told{1, row(0), nil, false}},
		{prog(skipOp(0, -1), sayOp(1)), row(0), told{2, row(0), nil, false}},
		{prog(skipOp(0, -1), sayOp(1)), row(3), told{2, row(3), []int{1}, false}},
		{prog(skipOp(1, -1), sayOp(1)), row(0), told{2, row(0), []int{1}, false}},
		{prog(sayOp(7), skipOp(0, -2), sayOp(8)), row(0), told{3, row(0), []int{7, 7}, false}},
		{prog(sayOp(7), skipOp(0, -2), sayOp(8)), row(1), told{3, row(1), []int{7, 8}, false}},
		// Back to what changes the slot, so that it goes on then.
		{prog(skipOp(0, 1), sayOp(1), moveOp(0, 1), skipOp(1, -3), sayOp(2)), row(0, 5), told{4, row(5, 5), []int{2}, false}},
		{prog(moveOp(0, 1), clearOp(1), skipOp(1, -2), holdOp()), row(0, 5), told{4, row(5, 0), nil, false}},
		// Ahead of the first op there is none.
		{prog(sayOp(7), skipOp(0, -3), sayOp(8)), row(0), told{2, row(0), []int{7}, false}},
		{prog(sayOp(7), skipOp(0, math.MinInt), sayOp(8)), row(0), told{2, row(0), []int{7}, false}},
		{prog(sayOp(7), skipOp(0, math.MaxInt), sayOp(8)), row(0), told{2, row(0), []int{7}, false}},
		{prog(sayOp(7), skipOp(0, math.MaxInt-1), sayOp(8)), row(0), told{2, row(0), []int{7}, false}},
		{prog(sayOp(7), skipOp(0, math.MaxInt), sayOp(8)), row(4), told{3, row(4), []int{7, 8}, false}},
	} {
		wantRun(t, x.ops, x.slots, x.want)
	}
}

// P10.2, P10.3: all programs of up to three ops of a few, over a few rows of slots.
func TestEachProgram(t *testing.T) {
	few := prog(sayOp(1), sayOp(2), clearOp(0), clearOp(1), moveOp(0, 1), moveOp(1, 0), moveOp(1, 1), moveOp(0, 2), skipOp(0, 0), skipOp(0, 1), skipOp(1, 2), skipOp(2, 1), skipOp(0, -1), skipOp(1, -2), holdOp(), api.FOp{Op: 5})
	var each func(ops []api.FOp)
	each = func(ops []api.FOp) {
		for _, slots := range [][]uint64{nil, row(0), row(3), row(0, 5), row(3, 0), row(3, 5)} {
			checkRun(t, ops, slots)
		}
		if len(ops) == 3 {
			return
		}
		for _, o := range few {
			each(append(slices.Clone(ops), o))
		}
	}
	each(nil)
}

// anOp is an op by chance, which may be, or not.
func anOp(chance *rand.Rand, wrong bool) api.FOp {
	if wrong && chance.Intn(3) == 0 {
		l := odd()
		return api.FOp{Op: uint8(chance.Intn(7)), A: l[chance.Intn(len(l))], B: l[chance.Intn(len(l))]}
	}
	a, b := chance.Intn(6), chance.Intn(6)
	switch chance.Intn(5) {
	case 0:
		return sayOp(chance.Intn(100))
	case 1:
		return clearOp(a)
	case 2:
		return moveOp(a, b)
	case 3:
		return skipOp(a, chance.Intn(9))
	}
	return holdOp()
}

func aRow(chance *rand.Rand, many int) []uint64 {
	var slots []uint64
	for range chance.Intn(many + 1) {
		slots = append(slots, uint64(chance.Intn(2))*chance.Uint64())
	}
	return slots
}

// P10.1 to P10.3: programs that may be, of all lengths, by chance with a seed: a run never comes to its bound but at its last place.
func TestRandomRight(t *testing.T) {
	chance := rand.New(rand.NewSource(10))
	for range 20000 {
		var ops []api.FOp
		for range chance.Intn(9) {
			ops = append(ops, anOp(chance, false))
		}
		if !Right(list(ops)) {
			t.Fatalf("Right of %v = false", ops)
		}
		slots := aRow(chance, 6)
		checkRun(t, ops, slots)
		at, steps := 0, 0
		for at < len(ops) {
			next, _, _, _ := Step(ops, at, slots)
			if next <= at {
				t.Fatalf("Step at %d of %v over %v leads to %d", at, ops, slots, next)
			}
			_, slots, _, _ = Step(ops, at, slots)
			at = next
			steps++
		}
		if steps > len(ops) {
			t.Fatalf("%d steps of %v", steps, ops)
		}
	}
}

// P10.1 to P10.3, R1: programs and slots that may not be, by chance with a seed.
func TestRandomWrong(t *testing.T) {
	chance := rand.New(rand.NewSource(11))
	for range 20000 {
		var ops []api.FOp
		right := true
		for range chance.Intn(20) {
			ops = append(ops, anOp(chance, true))
			right = right && mayBe(ops[len(ops)-1])
		}
		if told := Right(list(ops)); told != (right && len(ops) <= 8) {
			t.Fatalf("Right of %v = %v", ops, told)
		}
		slots := aRow(chance, 15)
		checkRun(t, ops, slots)
		for _, at := range odd() {
			checkStep(t, ops, at, slots)
		}
	}
}

// R1: many more ops and slots than there may be are done as any others, and it ends.
func TestVeryMany(t *testing.T) {
	const many = 100000
	var ops []api.FOp
	want := make([]uint64, many)
	slots := make([]uint64, many)
	var said []int
	for i := range many {
		slots[i], want[i] = uint64(i+1), uint64(i+1)
		if i%3 == 0 {
			want[i] = 0
			ops = append(ops, clearOp(i))
		} else {
			said = append(said, i)
			ops = append(ops, sayOp(i))
		}
	}
	then, told, held, steps := Run(ops, slots)
	if !slices.Equal(then, want) || !slices.Equal(told, said) || held || steps != many {
		t.Errorf("a run of %d ops has %d steps, and says %d", many, steps, len(told))
	}
	if at, _, _, _ := Step(append(ops, skipOp(many-1, 5)), many, append(make([]uint64, many-1), 0)); at != many+6 {
		t.Errorf("a skip at %d leads to %d", many, at)
	}
	for _, b := range []int{-1, -many} {
		round := append(slices.Repeat(prog(holdOp()), many-1), skipOp(0, b))
		if _, _, held, steps := Run(round, row(0)); !held || steps != many {
			t.Errorf("a run of %d ops led back has %d steps", many, steps)
		}
	}
	if told := Of(make([][]api.FOp, many), many); len(told) != 0 {
		t.Errorf("Of %d = %v", many, told)
	}
}

// spoil writes into each slot, and into the room behind the last one.
func spoil(l []uint64) {
	for i := range l[:cap(l)] {
		l[:cap(l)][i] = 0xbad
	}
}

func spoilSaid(l []int) {
	for i := range l[:cap(l)] {
		l[:cap(l)][i] = -0xbad
	}
}

// R7: what Step and Run tell, and what they were handed, don't see what becomes of each other, also where nothing was done.
func TestEachItsOwn(t *testing.T) {
	for _, ops := range [][]api.FOp{nil, prog(sayOp(1)), prog(clearOp(0), sayOp(2)), prog(moveOp(0, 1), sayOp(3), sayOp(4)), prog(skipOp(0, 1), sayOp(5)), prog(holdOp()), prog(api.FOp{Op: 9}), prog(clearOp(9))} {
		for _, slots := range [][]uint64{nil, row(0), row(4), row(4, 5), row(1, 0, 3, 4, 5, 6)} {
			for at := -1; at <= len(ops); at++ {
				own := roomySlots(slots)
				_, then, said, _ := Step(ops, at, own)
				_, other, otherSaid, _ := Step(ops, at, own)
				want, wantSaid := slices.Clone(then), slices.Clone(said)
				spoil(other)
				spoilSaid(otherSaid)
				wantSlots(t, own, slots)
				spoil(own)
				if !slices.Equal(then, want) || !slices.Equal(said, wantSaid) {
					t.Fatalf("Step at %d of %v over %v: %v, %v, when something else was written into", at, ops, slots, then, said)
				}
			}
			own, ownOps := roomySlots(slots), roomyOps(ops)
			then, said, _, _ := Run(ownOps, own)
			other, otherSaid, _, _ := Run(ownOps, own)
			want, wantSaid := slices.Clone(then), slices.Clone(said)
			spoil(other)
			spoilSaid(otherSaid)
			wantSlots(t, own, slots)
			wantOps(t, ownOps, ops)
			spoil(own)
			clear(ownOps[:cap(ownOps)])
			if !slices.Equal(then, want) || !slices.Equal(said, wantSaid) {
				t.Fatalf("Run of %v over %v: %v, %v, when something else was written into", ops, slots, then, said)
			}
		}
	}
}

// R6: the same again is answered the same, whatever was asked between.
func TestNothingIsKept(t *testing.T) {
	ops := prog(sayOp(1), holdOp(), clearOp(0))
	first, said, held, steps := Run(ops, row(3))
	Run(prog(sayOp(9), sayOp(8)), row(1, 2, 3))
	Step(prog(holdOp()), 0, row(7))
	again, saidAgain, heldAgain, stepsAgain := Run(ops, row(3))
	if !slices.Equal(first, again) || !slices.Equal(said, saidAgain) || held != heldAgain || steps != stepsAgain {
		t.Errorf("Run = %v, %v, %v, %d, then %v, %v, %v, %d", first, said, held, steps, again, saidAgain, heldAgain, stepsAgain)
	}
	if _, said, held, _ := Run(prog(clearOp(0)), row(3)); len(said) != 0 || held {
		t.Errorf("a clear says %v, holds %v", said, held)
	}
}
