package model

import (
	"math"
	"slices"
	"testing"

	"penfold/api"
)

// Ops of finalizers, in short.
func sayOp(a int) api.FOp     { return api.FOp{Op: 0, A: a} }
func clearOp(a int) api.FOp   { return api.FOp{Op: 1, A: a} }
func moveOp(a, b int) api.FOp { return api.FOp{Op: 2, A: a, B: b} }
func skipOp(a, b int) api.FOp { return api.FOp{Op: 3, A: a, B: b} }
func holdOp() api.FOp         { return api.FOp{Op: 4} }

// planned is a plan of so many scopes and threads: the immortal bytes begin at 64 times the scopes, the heap 64 behind that.
func planned(scopes, threads int) api.Plan {
	return api.Plan{Scopes: scopes, Threads: threads, Immortal: 64, Heap: 512}
}

// far are numbers far from all bounds, and such as would be within if upper bits were lost.
func far() []int {
	l := []int{-1, -2, -7, -8, -256, -65536}
	for d := range 9 {
		l = append(l, math.MaxInt-d, math.MinInt+d)
	}
	for _, bits := range []int{8, 16, 31, 32, 48, 62} {
		l = append(l, 1<<bits, 1<<bits+1, 1<<bits+8, -1<<bits, -1<<bits+1, -1<<bits+8)
	}
	return l
}

// P12.1, P12.3: the chapter's example.
func TestExample(t *testing.T) {
	b := begun(t, api.Plan{Scopes: 2, Threads: 1, Immortal: 16, Heap: 64}, nil)
	b.does(0, create(64), api.OK, 1)
	b.ok(0, enter(1))
	b.gives(0, alloc(0, 1, 0, 0), 16777234) // at 144, the 18th word, of scope 1
	b.ok(0, exit())
	b.refuses(0, load(1, 0, 0), api.ErrReach)
}

// P12.1: a new one, of each number of scopes and threads, at both ends of its bytes.
func TestNew(t *testing.T) {
	for scopes := 1; scopes <= 8; scopes++ {
		for threads := 1; threads <= 4; threads++ {
			for _, bytes := range []struct{ immortal, heap int }{{0, 0}, {8, 8}, {64, 512}, {2048, 8192}} {
				b := begun(t, api.Plan{Scopes: scopes, Threads: threads, Immortal: bytes.immortal, Heap: bytes.heap}, nil)
				for n := range threads {
					b.regs(n, 0, 0, 0, 0)
					b.entries(n)
				}
				b.ctl(0, api.Ctl{State: api.Live, Count: 1, Parent: -1})
				for n := range scopes {
					if n > 0 {
						b.ctl(n, api.Ctl{State: api.Free, Parent: -1})
					}
					b.portal(n, 0)
					b.used(n, 0)
				}
				for at := 0; at < 65536; at += 8 {
					b.gone(handle(0, 0, at))
					b.gone(handle(1, 0, at))
				}
			}
		}
	}
}

// wrongPlans are plans of which one number, or all, may not be.
func wrongPlans() []api.Plan {
	wrong := []api.Plan{{}, {Scopes: 1}, {Threads: 1}, {Scopes: 9, Threads: 5, Immortal: 2056, Heap: 8200}, {Scopes: -1, Threads: -1, Immortal: -8, Heap: -8}}
	for _, p := range []api.Plan{{Scopes: 1, Threads: 1}, {Scopes: 3, Threads: 2, Immortal: 16, Heap: 64}, {Scopes: 8, Threads: 4, Immortal: 2048, Heap: 8192}} {
		for _, n := range append(far(), 0, 9, 10) {
			wrong = append(wrong, api.Plan{Scopes: n, Threads: p.Threads, Immortal: p.Immortal, Heap: p.Heap})
		}
		for _, n := range append(far(), 0, 5, 6) {
			wrong = append(wrong, api.Plan{Scopes: p.Scopes, Threads: n, Immortal: p.Immortal, Heap: p.Heap})
		}
		for _, n := range []int{-1, -8, 1, 4, 7, 9, 2047, 2049, 2056, math.MaxInt, math.MaxInt - 7, math.MinInt} {
			wrong = append(wrong, api.Plan{Scopes: p.Scopes, Threads: p.Threads, Immortal: n, Heap: p.Heap})
		}
		for _, n := range []int{-1, -8, 1, 4, 7, 9, 8191, 8193, 8200, math.MaxInt, math.MaxInt - 7, math.MinInt} {
			wrong = append(wrong, api.Plan{Scopes: p.Scopes, Threads: p.Threads, Immortal: p.Immortal, Heap: n})
		}
	}
	return wrong
}

// wrongFins are finalizers of which one number, or one length, may not be.
func wrongFins() [][][]api.FOp {
	wrong := [][][]api.FOp{make([][]api.FOp, 9), {slices.Repeat([]api.FOp{sayOp(1)}, 9)}}
	for _, o := range []api.FOp{
		sayOp(-1), sayOp(100), {Op: 0, A: 1, B: 1}, clearOp(-1), clearOp(6), {Op: 1, A: 1, B: 1}, moveOp(6, 0), moveOp(0, 6), moveOp(-1, 0), moveOp(0, -1),
		skipOp(6, 1), skipOp(-1, 1), skipOp(0, 9), skipOp(0, -1), {Op: 4, A: 1}, {Op: 4, B: 1}, {Op: 5}, {Op: 255}, sayOp(math.MaxInt), skipOp(0, math.MinInt),
	} {
		wrong = append(wrong, [][]api.FOp{{o}}, [][]api.FOp{nil, {sayOp(1), o}}, append(make([][]api.FOp, 7), []api.FOp{sayOp(1), sayOp(2), sayOp(3), sayOp(4), sayOp(5), sayOp(6), sayOp(7), o}))
	}
	return wrong
}

// rightFins are the most, and the greatest, that may be.
func rightFins() [][]api.FOp {
	ops := []api.FOp{sayOp(0), sayOp(99), clearOp(0), clearOp(5), moveOp(5, 0), moveOp(0, 5), skipOp(5, 8), skipOp(0, 0)}
	return slices.Repeat([][]api.FOp{ops}, 8)
}

// P12.1: a plan that may not be, or finalizers that may not be, or both, are ErrArg, and nothing.
func TestNewWrong(t *testing.T) {
	refuse := func(p api.Plan, fins [][]api.FOp) {
		t.Helper()
		if m, err := New(p, fins); m != nil || err != api.ErrArg {
			t.Errorf("New(%v, %v) = %v, %d; want none, %d", p, fins, m, err, api.ErrArg)
		}
	}
	for _, p := range wrongPlans() {
		refuse(p, nil)
		refuse(p, rightFins())
		refuse(p, make([][]api.FOp, 9))
	}
	for _, fins := range wrongFins() {
		for _, p := range []api.Plan{{Scopes: 1, Threads: 1}, {Scopes: 8, Threads: 4, Immortal: 2048, Heap: 8192}, {}} {
			refuse(p, fins)
		}
	}
	for _, fins := range [][][]api.FOp{nil, {}, {nil}, {{}}, make([][]api.FOp, 8), rightFins(), {{holdOp()}}} {
		begun(t, planned(2, 1), fins)
	}
}

// everyCall is a call of each Op, and of one that there is not.
func everyCall() []api.Call {
	return []api.Call{{}, setTo(0, 9), create(8), destroy(1), enter(1), exit(), in(0), alloc(0, 0, 0, 0), load(0, 0, 0), store(0, 0, 0), look(0, 1), gate(1, 0), {Op: 12}}
}

// P12.1, P12.3: there is no such thread: none has registers, entries or calls, and nothing changes.
func TestNoThread(t *testing.T) {
	for threads := 1; threads <= 4; threads++ {
		b := begun(t, planned(3, threads), nil)
		b.does(0, create(64), api.OK, 1)
		b.ok(0, enter(1))
		b.any(0, alloc(0, 1, 0, 0))
		for _, n := range append(far(), threads, threads+1, 5, 64) {
			if r, l := b.m.Regs(n), b.m.Entries(n); len(r) != 0 || len(l) != 0 {
				t.Fatalf("of %d threads the thread %d has %v, %v", threads, n, r, l)
			}
			for _, c := range everyCall() {
				a, err := b.m.Do(n, c)
				if a.Code != api.OK || a.N != 0 || a.Said != nil || err != api.ErrNone {
					t.Fatalf("Do(%d, %v) = %v, %d", n, c, a, err)
				}
			}
		}
		b.same()
	}
}

// P12.1: of what is no scope there is no Ctl, no portal, and nothing used.
func TestNoScope(t *testing.T) {
	for scopes := 1; scopes <= 8; scopes++ {
		b := begun(t, planned(scopes, 1), nil)
		for n := 1; n < scopes; n++ {
			b.does(0, create(32), api.OK, n)
			b.ok(0, enter(n))
			b.any(0, alloc(0, 1, 0, 0))
			b.ok(0, gate(n, 0))
			b.used(n, 24)
			b.ok(0, exit())
		}
		for _, n := range append(far(), scopes, scopes+1, 9, 64) {
			b.sameScope(n)
			if c, err := b.m.Ctl(n); c != (api.Ctl{}) || err != api.ErrScope || b.m.Portal(n) != 0 || b.m.Used(n) != 0 {
				t.Errorf("of %d scopes the scope %d is %v, %d", scopes, n, c, err)
			}
		}
	}
}

// named tells which of the registers an Op names.
func named(op uint8) string {
	switch op {
	case api.CaSet, api.CaAlloc, api.CaPortal:
		return "R"
	case api.CaLoad:
		return "RH"
	case api.CaStore:
		return "HV"
	case api.CaGate:
		return "V"
	}
	return ""
}

// with is the call with another register there.
func with(c api.Call, which string, n int) api.Call {
	switch which {
	case "R":
		c.R = uint8(n)
	case "H":
		c.H = uint8(n)
	case "V":
		c.V = uint8(n)
	}
	return c
}

// busy is a model in which a call of each Op, with whichever registers, may be done: the thread 0 is within 1, and each register has an object of two slots there.
func busy(t *testing.T) *both {
	b := begun(t, planned(4, 2), nil)
	b.does(0, create(200), api.OK, 1)
	b.does(0, create(64), api.OK, 2)
	b.ok(0, enter(1))
	for r := range 4 {
		b.any(0, alloc(uint8(r), 2, 0, 0))
	}
	return b
}

// P12.3: each of R, H and V must be below MaxRegs where the Op names it, and is not asked where it does not.
func TestRegisters(t *testing.T) {
	calls := []api.Call{{}, setTo(0, 9), create(8), destroy(2), enter(2), exit(), in(1), alloc(0, 0, 0, 0), load(0, 0, 1), store(0, 1, 0), look(0, 1), gate(1, 0)}
	for _, c := range calls {
		plainAnswer, _ := busy(t).m.Do(0, c)
		if plainAnswer.Code != api.OK {
			t.Fatalf("%v is refused: %v", c, plainAnswer)
		}
		for _, which := range []string{"R", "H", "V"} {
			isNamed := slices.Contains([]byte(named(c.Op)), which[0])
			for _, n := range []int{0, 1, 2, 3, 4, 5, 7, 8, 127, 128, 252, 255} {
				b := busy(t)
				if isNamed && n > 3 {
					b.refuses(0, with(c, which, n), api.ErrArg)
					continue
				}
				if a := b.any(0, with(c, which, n)); a.Code != api.OK || a.N != plainAnswer.N {
					t.Errorf("%v with %s %d is answered %v", c, which, n, a)
				}
			}
		}
	}
}

// P12.3: a register that there is not is told ahead of all else that is wrong.
func TestRegistersFirst(t *testing.T) {
	b := begun(t, planned(3, 1), nil)
	for _, c := range []api.Call{
		{Op: api.CaAlloc, R: 4, A: 9}, {Op: api.CaAlloc, R: 4, C: 8}, {Op: api.CaLoad, R: 4, B: -1}, {Op: api.CaLoad, H: 4}, {Op: api.CaStore, H: 4, B: 9}, {Op: api.CaStore, V: 4}, {Op: api.CaStore, V: 255, B: -1},
		{Op: api.CaPortal, R: 4}, {Op: api.CaPortal, R: 4, A: 3}, {Op: api.CaPortal, R: 4, A: 1}, {Op: api.CaGate, V: 4}, {Op: api.CaGate, V: 4, A: 3}, {Op: api.CaGate, V: 4, A: -1}, {Op: api.CaGate, V: 255, A: 1},
	} {
		b.refuses(0, c, api.ErrArg)
	}
	// The same calls, with registers that there are, are refused for what else is wrong.
	for _, x := range []struct {
		c    api.Call
		code api.Errno
	}{
		{api.Call{Op: api.CaLoad, R: 3, B: -1}, api.ErrHandle}, {api.Call{Op: api.CaStore, V: 3, H: 3, B: 9}, api.ErrHandle}, {api.Call{Op: api.CaPortal, R: 3}, api.ErrScope},
		{api.Call{Op: api.CaPortal, R: 3, A: 1}, api.ErrReach}, {api.Call{Op: api.CaGate, V: 3, A: 3}, api.ErrScope}, {api.Call{Op: api.CaGate, V: 3, A: 1}, api.ErrReach},
	} {
		b.refuses(0, x.c, x.code)
	}
}

// P12.3: CaNone answers OK, whatever its numbers, and an Op that there is not is ErrArg.
func TestNoneAndNoOp(t *testing.T) {
	b := busy(t)
	for _, n := range append(far(), 0, 1, 4) {
		was := b.looks()
		b.ok(0, api.Call{R: 255, H: 9, V: 4, A: n, B: n, C: n})
		if is := b.looks(); !slices.Equal(is.shared, was.shared) || !slices.Equal(is.threads[0], was.threads[0]) {
			t.Fatal("CaNone changed something")
		}
	}
	for op := 12; op < 256; op++ {
		b.refuses(0, api.Call{Op: uint8(op), A: 1}, api.ErrArg)
		b.refuses(0, api.Call{Op: uint8(op), R: 9, H: 9, V: 9}, api.ErrArg)
	}
}

// P12.3: CaSet puts a number's 64 bits into one register of one thread.
func TestSet(t *testing.T) {
	b := begun(t, planned(2, 3), nil)
	b.ok(0, api.Call{Op: api.CaSet, R: 0, A: -1})
	b.regs(0, math.MaxUint64, 0, 0, 0)
	b.ok(0, api.Call{Op: api.CaSet, R: 1, A: math.MinInt})
	b.regs(0, math.MaxUint64, 1<<63, 0, 0)
	b.ok(0, api.Call{Op: api.CaSet, R: 2, A: math.MaxInt})
	b.ok(0, api.Call{Op: api.CaSet, R: 3, A: 7, B: 8, C: 9, H: 1, V: 2})
	b.regs(0, math.MaxUint64, 1<<63, 1<<63-1, 7)
	b.ok(2, api.Call{Op: api.CaSet, R: 3, A: 1})
	b.ok(0, api.Call{Op: api.CaSet, R: 0, A: 0})
	b.regs(0, 0, 1<<63, 1<<63-1, 7)
	b.regs(1, 0, 0, 0, 0)
	b.regs(2, 0, 0, 0, 1)
	b.refuses(0, api.Call{Op: api.CaSet, R: 4, A: 1}, api.ErrArg)
}

// P12.3: CaCreate tells the least scope that is Free, or why there is none; CaDestroy unmakes one that nobody is within.
func TestCreateAndDestroy(t *testing.T) {
	b := begun(t, planned(3, 2), nil)
	for _, size := range append(far(), 0, 8193) {
		if size < 1 || size > 8192 {
			b.refuses(0, create(size), api.ErrArg)
		}
	}
	b.refuses(0, create(513), api.ErrGround)
	b.refuses(0, create(8192), api.ErrGround)
	b.does(0, create(505), api.OK, 1)
	b.refuses(1, create(1), api.ErrGround)
	b.ok(1, destroy(1))
	b.ctl(1, api.Ctl{State: api.Free, Parent: -1, Epoch: 1})
	b.does(0, create(1), api.OK, 1)
	b.does(1, create(504), api.OK, 2)
	b.refuses(0, create(1), api.ErrMany)
	b.refuses(0, create(8193), api.ErrArg)
	for _, n := range append(far(), 0, 3, 4, 8) {
		b.refuses(0, destroy(n), api.ErrScope)
	}
	b.ok(0, enter(2))
	b.refuses(0, destroy(2), api.ErrInUse)
	b.refuses(1, destroy(2), api.ErrInUse)
	b.ok(0, exit())
	b.ok(1, destroy(2))
	b.refuses(1, destroy(2), api.ErrScope)
	b.ok(1, destroy(1))
	b.does(1, create(512), api.OK, 1)
	b.ctl(1, api.Ctl{State: api.Idle, Parent: -1, Epoch: 2})
}

// P12.3: CaEnter counts a thread in a scope, from where it allocates; who comes from elsewhere is refused.
func TestEnter(t *testing.T) {
	b := begun(t, planned(4, 2), nil)
	for n := 1; n <= 2; n++ {
		b.does(0, create(64), api.OK, n)
	}
	for _, n := range append(far(), 0, 4, 5, 8) {
		b.refuses(0, enter(n), api.ErrScope)
	}
	b.refuses(0, enter(3), api.ErrScope)
	b.ok(0, enter(1))
	b.ctl(1, api.Ctl{State: api.Live, Count: 1})
	b.refuses(0, enter(1), api.ErrCycle)
	b.ok(0, enter(2))
	b.ctl(2, api.Ctl{State: api.Live, Count: 1, Parent: 1})
	b.entries(0, counted(1), counted(2))
	b.refuses(1, enter(2), api.ErrCycle)
	b.ok(1, enter(1))
	b.ok(1, enter(2))
	b.ctl(1, api.Ctl{State: api.Live, Count: 2})
	b.ctl(2, api.Ctl{State: api.Live, Count: 2, Parent: 1})
	b.refuses(1, enter(1), api.ErrCycle)
	b.ok(1, in(1))
	b.ok(1, enter(2))
	b.entries(1, counted(1), counted(2), only(1), counted(2))
	b.ctl(2, api.Ctl{State: api.Live, Count: 3, Parent: 1})
}

// P12.3: a thread has MaxDepth entries, counted or not; one more is ErrDeep, ahead of what the scope itself is against, but behind ErrScope and ErrReach.
func TestDeep(t *testing.T) {
	b := begun(t, api.Plan{Scopes: 8, Threads: 2, Heap: 512}, nil)
	for n := 1; n <= 6; n++ {
		b.does(0, create(32), api.OK, n)
	}
	for n := 1; n <= 6; n++ {
		b.ok(0, enter(n))
		b.ok(1, in(0))
	}
	for thread := range 2 {
		b.refuses(thread, enter(7), api.ErrDeep) // Free
		b.refuses(thread, enter(1), api.ErrDeep)
		b.refuses(thread, enter(8), api.ErrScope)
		b.refuses(thread, enter(0), api.ErrScope)
		b.refuses(thread, in(0), api.ErrDeep)
		b.refuses(thread, in(8), api.ErrScope)
		b.refuses(thread, in(-1), api.ErrScope)
		b.refuses(thread, in(7), api.ErrReach)
	}
	b.refuses(0, in(6), api.ErrDeep)
	b.refuses(1, in(6), api.ErrReach)
	b.ctl(1, api.Ctl{State: api.Live, Count: 1})
	b.ok(0, exit())
	b.ok(0, in(3))
	b.refuses(0, in(3), api.ErrDeep)
	b.ok(1, exit())
	b.ok(1, enter(1))
	b.refuses(1, enter(2), api.ErrDeep)
	b.ctl(2, api.Ctl{State: api.Live, Count: 1, Parent: 1})
	b.entries(0, counted(1), counted(2), counted(3), counted(4), counted(5), only(3))
	b.entries(1, only(0), only(0), only(0), only(0), only(0), counted(1))
}

// P12.3: a scope is entered MaxCount times at most, by all threads together.
func TestCount(t *testing.T) {
	b := begun(t, planned(2, 3), nil)
	b.does(0, create(8), api.OK, 1)
	for thread := range 2 {
		for range 3 {
			b.ok(thread, in(0))
			b.ok(thread, enter(1))
		}
	}
	b.ok(2, enter(1))
	b.ctl(1, api.Ctl{State: api.Live, Count: 7})
	b.refuses(2, enter(1), api.ErrCycle)
	b.ok(2, in(0))
	b.refuses(2, enter(1), api.ErrCount)
	b.ok(0, exit())
	b.ok(2, enter(1))
	b.ctl(1, api.Ctl{State: api.Live, Count: 7})
	b.entries(2, counted(1), only(0), counted(1))
}

// P12.3: CaIn is of the immortal scope, and of one that is reached, wherever that was entered; it counts nobody.
func TestIn(t *testing.T) {
	b := begun(t, planned(4, 2), nil)
	for n := 1; n <= 3; n++ {
		b.does(0, create(64), api.OK, n)
	}
	b.ok(0, in(0))
	for _, n := range append(far(), 4, 5, 8) {
		b.refuses(0, in(n), api.ErrScope)
	}
	b.refuses(0, in(1), api.ErrReach)
	b.ok(0, enter(1))
	b.ok(0, enter(2))
	b.refuses(1, in(1), api.ErrReach)
	b.ok(0, in(1))
	b.refuses(0, in(3), api.ErrReach)
	b.ctl(1, api.Ctl{State: api.Live, Count: 1})
	b.entries(0, only(0), counted(1), counted(2), only(1))
	b.gives(0, alloc(0, 0, 0, 0), handle(1, 0, 320))
	b.ok(0, enter(3))
	b.ctl(3, api.Ctl{State: api.Live, Count: 1, Parent: 1})
	b.ok(0, in(0))
	b.gives(0, alloc(0, 0, 0, 0), handle(0, 0, 256))
	b.ok(0, exit())
	b.ok(0, exit())
	b.gives(0, alloc(0, 0, 0, 0), handle(1, 0, 336))
	b.ok(0, exit())
	b.gives(0, alloc(0, 0, 0, 0), handle(2, 0, 384))
}

// P12.3: an exit of no entries, of one that is not counted, of a scope with others within, and of the last one.
func TestExit(t *testing.T) {
	b := begun(t, planned(3, 2), [][]api.FOp{{sayOp(5)}})
	b.does(0, create(64), api.OK, 1)
	b.refuses(0, exit(), api.ErrEmpty)
	b.ok(0, enter(1))
	b.ok(1, enter(1))
	b.refuses(1, destroy(1), api.ErrInUse)
	b.any(0, alloc(0, 1, 0, 0))
	b.ok(0, gate(1, 0))
	b.ok(0, in(1))
	b.ok(0, in(0))
	b.ok(0, exit())
	b.entries(0, counted(1), only(1))
	b.ok(0, exit())
	b.entries(0, counted(1))
	b.ctl(1, api.Ctl{State: api.Live, Count: 2})
	b.ok(0, exit())
	b.entries(0)
	b.ctl(1, api.Ctl{State: api.Live, Count: 1})
	b.slots(handle(1, 0, 256), 0)
	b.portal(1, handle(1, 0, 256))
	b.refuses(0, exit(), api.ErrEmpty)
	b.does(1, exit(), api.OK, 1, 5)
	b.ctl(1, api.Ctl{State: api.Idle, Parent: -1, Epoch: 1})
	b.gone(handle(1, 0, 256))
	b.portal(1, 0)
	b.used(1, 0)
	b.refuses(1, exit(), api.ErrEmpty)
}

// P12.3: a thread that is counted twice is still within behind its first exit: nothing is finalized then.
func TestExitTwice(t *testing.T) {
	b := begun(t, planned(2, 1), [][]api.FOp{{sayOp(5)}})
	b.does(0, create(64), api.OK, 1)
	b.ok(0, enter(1))
	b.any(0, alloc(0, 0, 0, 0))
	b.ok(0, in(0))
	b.ok(0, enter(1))
	b.ok(0, exit())
	b.ctl(1, api.Ctl{State: api.Live, Count: 1})
	b.ok(0, exit())
	b.does(0, exit(), api.OK, 1, 5)
}

// sayers are finalizers of the tags 0 to 7, each of which says which tag it is of, and which of the slots 0 and 1 has something; the programs of the tags 3 and 4 have no ops.
func sayers() [][]api.FOp {
	var l [][]api.FOp
	for tag := range 8 {
		l = append(l, []api.FOp{sayOp(10 + tag), skipOp(0, 1), sayOp(20 + tag), skipOp(1, 1), sayOp(30 + tag)})
	}
	l[3], l[4] = nil, []api.FOp{}
	return l
}

// P12.3: objects are finalized from the greatest place on, just those whose tag has a program of an op at least.
func TestFinalizersInOrder(t *testing.T) {
	b := begun(t, planned(2, 1), sayers()[:7])
	b.does(0, create(512), api.OK, 1)
	b.ok(0, enter(1))
	for tag := range 8 {
		b.any(0, alloc(0, 2, tag, tag))
		b.ok(0, store(0, tag%2, 0))
	}
	b.any(0, alloc(0, 0, 0, 0)) // a skip of a slot that it has not leaves out nothing
	b.does(0, exit(), api.OK, 6, 10, 20, 30, 16, 26, 15, 35, 12, 22, 11, 31, 10, 20)
	b.ok(0, enter(1))
	b.any(0, alloc(0, 2, 0, 3))
	b.any(0, alloc(0, 2, 0, 4))
	b.any(0, alloc(0, 2, 0, 7))
	b.ok(0, exit())
	b.ctl(1, api.Ctl{State: api.Idle, Parent: -1, Epoch: 2})
}

// P12.3: only the scope's own objects are finalized; those of the immortal one never are.
func TestFinalizersOfOneScope(t *testing.T) {
	b := begun(t, planned(3, 1), sayers())
	b.does(0, create(64), api.OK, 1)
	b.does(0, create(64), api.OK, 2)
	b.any(0, alloc(0, 2, 0, 0))
	b.ok(0, enter(1))
	b.any(0, alloc(0, 2, 0, 1))
	b.ok(0, enter(2))
	b.any(0, alloc(0, 2, 0, 2))
	b.ok(0, in(1))
	b.any(0, alloc(0, 2, 0, 5))
	b.ok(0, in(0))
	b.any(0, alloc(0, 2, 0, 6))
	b.ok(0, exit())
	b.ok(0, exit())
	b.does(0, exit(), api.OK, 1, 12)
	b.used(1, 64)
	b.does(0, exit(), api.OK, 2, 15, 11)
	b.refuses(0, exit(), api.ErrEmpty)
	b.used(0, 64)
}

// P12.3: a finalizer that holds: the scope and the entry stay, what was said and done stays, and the next exit runs just those that came since.
func TestHeld(t *testing.T) {
	b := begun(t, planned(3, 2), [][]api.FOp{{sayOp(1), holdOp(), sayOp(2)}, {sayOp(3), moveOp(1, 0), clearOp(0)}, nil, {skipOp(0, 1), holdOp(), sayOp(4)}})
	b.does(0, create(160), api.OK, 1)
	b.ok(0, enter(1))
	b.any(0, alloc(0, 2, 0, 1))
	b.ok(0, store(0, 0, 0))
	b.any(0, alloc(1, 0, 0, 0))
	b.any(0, alloc(2, 1, 0, 2))
	b.any(0, alloc(3, 1, 0, 3))
	b.ok(0, store(2, 0, 0))
	b.ok(0, gate(1, 0))
	h := handle(1, 0, 256)
	b.slots(h, h, 0)
	b.does(0, exit(), api.ErrHeld, 3, 4, 1, 2, 3)
	b.ctl(1, api.Ctl{State: api.Live, Count: 1})
	b.entries(0, counted(1))
	b.slots(h, 0, h)
	b.slots(handle(1, 0, 304), h)
	b.portal(1, h)
	b.used(1, 96)
	// All of it goes on: it is looked at, stored into, entered, left by others.
	b.gives(0, load(3, 0, 1), h)
	b.ok(0, store(0, 0, 1))
	b.slots(h, handle(1, 0, 288), h)
	b.ok(1, enter(1))
	b.gives(1, look(0, 1), h)
	b.refuses(1, destroy(1), api.ErrInUse)
	b.ok(1, exit())
	b.gives(0, alloc(3, 1, 0, 3), handle(1, 0, 352))
	b.ok(0, store(3, 0, 3))
	b.does(0, exit(), api.ErrHeld, 1, 4)
	b.gives(0, alloc(3, 0, 0, 1), handle(1, 0, 376))
	b.does(0, exit(), api.OK, 1, 3)
	b.ctl(1, api.Ctl{State: api.Idle, Parent: -1, Epoch: 1})
	b.entries(0)
	b.used(1, 0)
	b.portal(1, 0)
	b.gone(h)
}

// P12.3: one that holds, whichever of several it is, holds; behind it an exit with nothing to be run says nothing.
func TestHeldByOne(t *testing.T) {
	for which := range 3 {
		b := begun(t, planned(2, 1), [][]api.FOp{{sayOp(1)}, {holdOp()}})
		b.does(0, create(64), api.OK, 1)
		b.ok(0, enter(1))
		for i := range 3 {
			tag := 0
			if i == which {
				tag = 1
			}
			b.any(0, alloc(0, 0, 0, tag))
		}
		b.does(0, exit(), api.ErrHeld, 3, 1, 1)
		b.used(1, 48)
		b.ok(0, exit())
		b.ctl(1, api.Ctl{State: api.Idle, Parent: -1, Epoch: 1})
	}
}

// P12.3: one who comes while a scope is held goes again, and the last one leaves it without those that were run.
func TestHeldAndLeftByAnother(t *testing.T) {
	b := begun(t, planned(2, 2), [][]api.FOp{{sayOp(1), holdOp()}, {sayOp(2)}})
	b.does(0, create(64), api.OK, 1)
	b.ok(0, enter(1))
	b.any(0, alloc(0, 0, 0, 0))
	b.does(0, exit(), api.ErrHeld, 1, 1)
	b.ok(1, enter(1))
	b.ok(0, exit())
	b.any(1, alloc(0, 0, 0, 1))
	b.does(1, exit(), api.OK, 1, 2)
	b.entries(0)
	b.entries(1)
}

// P12.3: all of eight finalizers of eight ops run, and what they say comes in order.
func TestGreatestFinalizers(t *testing.T) {
	ops := []api.FOp{sayOp(0), sayOp(99), clearOp(0), clearOp(5), moveOp(5, 1), skipOp(5, 1), sayOp(50), sayOp(51)}
	b := begun(t, planned(2, 1), slices.Repeat([][]api.FOp{ops}, 8))
	b.does(0, create(512), api.OK, 1)
	b.ok(0, enter(1))
	b.any(0, alloc(0, 6, 0, 7))
	b.ok(0, store(0, 1, 0))
	b.any(0, alloc(1, 6, 0, 0))
	b.any(0, alloc(1, 0, 0, 6))
	b.does(0, exit(), api.OK, 3, 0, 99, 50, 51, 0, 99, 51, 0, 99, 50, 51)
}

// P12.2, P12.3: a scope's whole life: made, entered, filled, looked at, left, met fresh from another parent, unmade and made again.
func TestLife(t *testing.T) {
	b := begun(t, planned(3, 2), [][]api.FOp{{sayOp(1)}})
	b.does(0, create(64), api.OK, 1)
	b.does(0, create(100), api.OK, 2)
	b.ok(0, enter(1))
	b.ok(0, enter(2))
	h := handle(2, 0, 320)
	b.gives(0, alloc(0, 2, 1, 0), h)
	b.used(2, 40)
	b.gives(0, alloc(1, 0, 0, 0), handle(2, 0, 360))
	b.used(2, 56)
	b.ok(0, store(0, 1, 1))
	b.ok(0, gate(2, 0))
	b.ok(1, enter(1))
	b.ok(1, enter(2))
	b.gives(1, look(3, 2), h)
	b.gives(1, load(2, 3, 1), handle(2, 0, 360))
	b.ok(0, exit())
	b.does(1, exit(), api.OK, 2, 1, 1)
	b.ctl(2, api.Ctl{State: api.Idle, Parent: -1, Epoch: 1})
	b.used(2, 0)
	b.portal(2, 0)
	b.gone(h)
	b.gone(handle(2, 0, 360))
	b.ok(1, exit())
	b.ok(1, enter(2))
	b.ctl(2, api.Ctl{State: api.Live, Count: 1, Epoch: 1})
	b.refuses(1, load(0, 3, 0), api.ErrStale)
	b.gives(1, alloc(0, 2, 0, 0), handle(2, 1, 320))
	b.slots(handle(2, 1, 320), 0, 0)
	b.refuses(1, store(0, 0, 3), api.ErrStale)
	b.refuses(1, gate(2, 3), api.ErrStale)
	b.does(1, exit(), api.OK, 1, 1)
	b.ok(1, destroy(2))
	b.does(1, create(8), api.OK, 2)
	b.does(0, exit(), api.OK, 0)
	b.ok(0, destroy(1))
	b.does(0, create(24), api.OK, 1)
	b.ok(1, enter(1))
	b.gives(1, alloc(1, 1, 0, 7), handle(1, 2, 256))
	b.ok(1, exit())
	b.ctl(1, api.Ctl{State: api.Idle, Parent: -1, Epoch: 3})
}

// P12.3: an object takes just what is left of its scope, and not one word more, in the immortal scope and in another one.
func TestJustWhatIsLeft(t *testing.T) {
	for _, scope := range []int{0, 1} {
		for size := 8; size <= 64; size += 8 {
			p := planned(2, 1)
			p.Immortal = size
			b := begun(t, p, nil)
			b.does(0, create(size), api.OK, 1)
			if scope == 1 {
				b.ok(0, enter(1))
			}
			words := size / 8
			for slots := max(0, words-1); slots <= 6; slots++ {
				b.refuses(0, alloc(1, slots, 0, 0), api.ErrMemory)
			}
			if words < 2 {
				b.refuses(0, alloc(1, 0, 0, 0), api.ErrMemory)
				continue
			}
			b.refuses(0, alloc(1, 0, size-15, 0), api.ErrMemory)
			b.gives(0, alloc(1, words-2, 0, 0), handle(scope, 0, 128+scope*size))
			b.used(scope, size)
			b.refuses(0, alloc(1, 0, 0, 0), api.ErrMemory)
			b.refuses(0, alloc(1, 6, 512, 0), api.ErrMemory)
			b.refuses(0, alloc(1, 7, 0, 0), api.ErrArg)
			b.refuses(0, alloc(1, 0, 0, 8), api.ErrArg)
		}
	}
	b := begun(t, api.Plan{Scopes: 1, Threads: 1}, nil)
	b.refuses(0, alloc(0, 0, 0, 0), api.ErrMemory)
}

// P12.3: and so behind others: with the last two words used nothing more is let in; with one word left neither.
func TestLastWords(t *testing.T) {
	b := begun(t, planned(3, 1), nil)
	b.does(0, create(72), api.OK, 1)
	b.ok(0, enter(1))
	b.gives(0, alloc(0, 1, 1, 0), handle(1, 0, 256))
	b.refuses(0, alloc(1, 4, 0, 0), api.ErrMemory)
	b.gives(0, alloc(1, 1, 0, 0), handle(1, 0, 288))
	b.refuses(0, alloc(2, 0, 1, 0), api.ErrMemory)
	b.gives(0, alloc(2, 0, 0, 0), handle(1, 0, 312))
	b.used(1, 72)
	b.refuses(0, alloc(3, 0, 0, 0), api.ErrMemory)
	b.ok(0, exit())
	b.ok(0, enter(1))
	b.gives(0, alloc(3, 6, 8, 0), handle(1, 1, 256))
	b.used(1, 72)
	b.ok(0, in(0))
	b.gives(0, alloc(3, 3, 8, 0), handle(0, 0, 192))
	b.refuses(0, alloc(3, 1, 0, 0), api.ErrMemory)
	b.gives(0, alloc(3, 0, 0, 0), handle(0, 0, 240))
	b.used(0, 64)
}

// P12.3: objects of no slots and no bytes, of the most of both, and of one more; whatever is asked for is new, and 0.
func TestAllocSizes(t *testing.T) {
	b := begun(t, api.Plan{Scopes: 2, Threads: 1, Immortal: 2048, Heap: 8192}, nil)
	at := 128
	for slots := 0; slots <= 6; slots++ {
		for _, bytes := range []int{0, 1, 7, 8, 9} {
			h := handle(0, 0, at)
			b.gives(0, alloc(0, slots, bytes, 0), h)
			b.slots(h, make([]uint64, slots)...)
			at += 16 + 8*slots + (bytes+7)/8*8
			b.used(0, at-128)
		}
	}
	b.does(0, create(8192), api.OK, 1)
	b.ok(0, enter(1))
	b.gives(0, alloc(0, 6, 512, 7), handle(1, 0, 2176))
	b.used(1, 576)
	b.gives(0, alloc(0, 6, 505, 7), handle(1, 0, 2752))
	b.gives(0, alloc(0, 0, 504, 7), handle(1, 0, 3328))
	b.used(1, 1672)
	for _, n := range append(far(), 7) {
		b.refuses(0, alloc(0, n, 0, 0), api.ErrArg)
	}
	for _, n := range append(far(), 513, 514, 520) {
		if n < 0 || n > 512 {
			b.refuses(0, alloc(0, 0, n, 0), api.ErrArg)
		}
	}
	for _, n := range append(far(), 8, 9) {
		b.refuses(0, alloc(0, 0, 0, n), api.ErrArg)
	}
	for tag := range 8 {
		b.any(0, alloc(0, 0, 0, tag))
	}
	b.used(1, 1672+8*16)
}

// P12.3: 8192 bytes hold as many of the least objects as they may, up to the last word of the arena.
func TestManyObjects(t *testing.T) {
	m, err := New(api.Plan{Scopes: 8, Threads: 1, Immortal: 2048, Heap: 8192}, [][]api.FOp{{sayOp(1)}})
	if err != api.OK {
		t.Fatal(err)
	}
	m.Do(0, create(8192))
	m.Do(0, enter(1))
	for i := range 512 {
		if a, _ := m.Do(0, alloc(0, 0, 0, 0)); a.Code != api.OK || a.N != int(handle(1, 0, 2560+16*i)) {
			t.Fatalf("the object %d: %v", i, a)
		}
	}
	if a, _ := m.Do(0, alloc(0, 0, 0, 0)); a.Code != api.ErrMemory || m.Used(1) != 8192 {
		t.Fatalf("one more: %v, %d used", a, m.Used(1))
	}
	if a, _ := m.Do(0, exit()); a.Code != api.OK || a.N != 512 || len(a.Said) != 512 {
		t.Fatalf("exit: %v", a)
	}
}

// checked is a number, and what it is told as by the thread 0 of asked.
type checked struct {
	h    uint64
	code api.Errno
}

// asked is a model in which the thread 0 is within 1 (of the epoch 1), but not within 2, where the thread 1 is; 3 is Idle. In each of 0, 1 and 2 there is one object of one slot, and one behind it.
func asked(t *testing.T) *both {
	b := begun(t, planned(4, 2), nil)
	for n := 1; n <= 3; n++ {
		b.does(0, create(64), api.OK, n)
	}
	b.ok(0, enter(1))
	b.any(0, alloc(0, 1, 0, 0))
	b.ok(0, exit())
	b.any(0, alloc(0, 1, 8, 0))
	b.any(0, alloc(0, 1, 0, 0))
	b.ok(1, enter(2))
	b.any(1, alloc(0, 1, 8, 0))
	b.any(1, alloc(0, 1, 0, 0))
	b.ok(0, enter(1))
	b.any(0, alloc(0, 1, 8, 0))
	b.any(0, alloc(1, 1, 0, 0))
	return b
}

// checks are the numbers: the immortal bytes begin at 256, the scope 1 at 320, the scope 2 at 384.
func checks() []checked {
	l := []checked{
		// Objects.
		{handle(0, 0, 256), api.OK}, {handle(0, 0, 288), api.OK}, {handle(1, 1, 320), api.OK}, {handle(1, 1, 352), api.OK},
		// Stale ones, whether or not there was one.
		{handle(1, 0, 320), api.ErrStale}, {handle(1, 2, 320), api.ErrStale}, {handle(1, 0, 352), api.ErrStale}, {handle(1, 16777215, 320), api.ErrStale}, {handle(0, 1, 256), api.ErrStale}, {handle(1, 0, 8), api.ErrStale},
		// Ones of scopes that are not reached, even if they are stale, or none.
		{handle(2, 0, 384), api.ErrReach}, {handle(2, 1, 384), api.ErrReach}, {handle(2, 0, 8), api.ErrReach}, {handle(3, 0, 448), api.ErrReach}, {handle(3, 5, 448), api.ErrReach},
		// Ones of scopes that are not in the plan.
		{handle(4, 0, 320), api.ErrHandle}, {handle(5, 1, 320), api.ErrHandle}, {handle(7, 0, 320), api.ErrHandle},
		// No handles.
		{1 << 13, api.ErrHandle}, {handle(1, 1, 320) + 1<<13, api.ErrHandle}, {handle(1, 1, 320) + 1<<23, api.ErrHandle}, {handle(8, 1, 320), api.ErrHandle}, {handle(9, 1, 320), api.ErrHandle}, {handle(128, 0, 320), api.ErrHandle},
		{handle(1, 1, 320) + 1<<56, api.ErrHandle}, {handle(1, 1, 320) + 1<<63, api.ErrHandle}, {handle(1, 1, 0), api.ErrHandle}, {handle(2, 0, 0), api.ErrHandle}, {1<<64 - 1, api.ErrHandle}, {1 << 63, api.ErrHandle},
	}
	// Places where no object stands: ahead of, within, between and behind them.
	for at := 8; at < 65536; at += 8 {
		if at != 256 && at != 288 {
			l = append(l, checked{handle(0, 0, at), api.ErrHandle})
		}
		if at != 320 && at != 352 {
			l = append(l, checked{handle(1, 1, at), api.ErrHandle})
		}
	}
	return l
}

// P12.2: each check of a number, in order, by whichever call asks for it.
func TestChecks(t *testing.T) {
	b := asked(t)
	was := b.looks()
	told := func(c api.Call, h uint64, code api.Errno) {
		t.Helper()
		if a, err := b.m.Do(0, c); a.Code != code || a.N != 0 || err != api.OK {
			t.Fatalf("%v of %x (scope %d, epoch %d, at %d) = %v, %d; want %d", c, h, h>>24&255, h>>32, h%8192*8, a, err, code)
		}
	}
	for _, x := range checks() {
		h, code := x.h, x.code
		told(setTo(2, h), h, api.OK)
		told(load(3, 2, 0), h, code)
		told(store(2, 0, 3), h, code) // the register 3 is 0
		told(gate(1, 2), h, code)
		told(store(0, 0, 2), h, code)
		if code == api.OK {
			told(gate(1, 3), h, api.OK)
			told(store(0, 0, 3), h, api.OK)
		}
	}
	told(setTo(2, 0), 0, api.OK)
	told(load(3, 2, 0), 0, api.ErrHandle)
	told(store(2, 0, 3), 0, api.ErrHandle)
	told(store(0, 0, 2), 0, api.OK)
	told(gate(1, 2), 0, api.OK)
	if is := b.looks(); !slices.Equal(is.shared, was.shared) || !slices.Equal(is.threads[1], was.threads[1]) {
		t.Errorf("%v became %v", was, is)
	}
	// Those that were refused are the same of the plain one, and change nothing.
	for _, x := range checks()[:40] {
		b.ok(0, setTo(2, x.h))
		for _, c := range []api.Call{load(3, 2, 0), store(2, 0, 3), gate(1, 2), store(0, 0, 2)} {
			b.any(0, c)
		}
	}
}

// P12.2: a handle is of the epoch that its scope has, and stale as soon as the scope was left by all, or unmade.
func TestStale(t *testing.T) {
	b := begun(t, planned(3, 1), nil)
	b.does(0, create(64), api.OK, 1)
	for epoch := range 5 {
		b.ok(0, enter(1))
		for old := range epoch {
			b.ok(0, setTo(1, handle(1, old, 256-64)+8))
			b.refuses(0, load(0, 1, 0), api.ErrStale)
		}
		b.gives(0, alloc(0, 1, 0, 0), handle(1, epoch, 256))
		b.ok(0, exit())
	}
	b.ok(0, destroy(1))
	b.does(0, create(64), api.OK, 1)
	b.ok(0, enter(1))
	b.ok(0, setTo(1, handle(1, 5, 256)))
	b.refuses(0, load(0, 1, 0), api.ErrStale)
	b.gives(0, alloc(0, 1, 0, 0), handle(1, 6, 256))
}

// P12.2: made and unmade as often as there are epochs, a scope has its first one again, and so its first handles.
func TestEpochRound(t *testing.T) {
	b := begun(t, planned(2, 1), nil)
	b.does(0, create(64), api.OK, 1)
	b.ok(0, enter(1))
	b.gives(0, alloc(0, 1, 0, 0), handle(1, 0, 192))
	b.ok(0, exit())
	b.ok(0, destroy(1))
	for range 16777215 - 2 {
		b.m.Do(0, create(64))
		b.m.Do(0, destroy(1))
	}
	b.x.scopes[1].epoch = 16777215
	b.does(0, create(64), api.OK, 1)
	b.ctl(1, api.Ctl{State: api.Idle, Parent: -1, Epoch: 16777215})
	b.ok(0, enter(1))
	b.refuses(0, load(1, 0, 0), api.ErrStale)
	b.gives(0, alloc(2, 1, 0, 0), handle(1, 16777215, 192))
	b.ok(0, store(2, 0, 2))
	b.ok(0, exit())
	b.ok(0, enter(1))
	b.ctl(1, api.Ctl{State: api.Live, Count: 1})
	b.refuses(0, load(1, 0, 0), api.ErrHandle)
	b.refuses(0, load(1, 2, 0), api.ErrStale)
	b.gives(0, alloc(3, 2, 0, 0), handle(1, 0, 192))
	b.gives(0, load(1, 0, 1), 0)
}

// P12.3: a slot is one of the object's, for a load and for a store, and the number is checked ahead of it.
func TestSlotBounds(t *testing.T) {
	b := begun(t, planned(2, 1), nil)
	b.does(0, create(512), api.OK, 1)
	b.ok(0, enter(1))
	for slots := 0; slots <= 6; slots++ {
		b.any(0, alloc(0, slots, 16, 0))
		for n := -1; n <= 8; n++ {
			if n >= 0 && n < slots {
				b.ok(0, store(0, n, 0))
				b.gives(0, load(1, 0, n), b.m.Regs(0)[0])
				continue
			}
			b.refuses(0, load(1, 0, n), api.ErrSlot)
			b.refuses(0, store(0, n, 0), api.ErrSlot)
		}
		for _, n := range far() {
			b.refuses(0, load(1, 0, n), api.ErrSlot)
			b.refuses(0, store(0, n, 0), api.ErrSlot)
		}
	}
	// The slot is told ahead of what is to be stored, and behind the holder.
	b.ok(0, setTo(2, 9))
	b.refuses(0, store(0, 6, 2), api.ErrSlot)
	b.refuses(0, store(0, 5, 2), api.ErrHandle)
	b.refuses(0, store(2, 6, 0), api.ErrHandle)
	b.refuses(0, load(1, 2, -1), api.ErrHandle)
}

// P12.3: each slot is its own: what is stored there is loaded there, and nowhere else.
func TestSlots(t *testing.T) {
	b := begun(t, planned(2, 2), nil)
	b.does(0, create(512), api.OK, 1)
	b.ok(0, enter(1))
	b.ok(1, enter(1))
	b.any(0, alloc(0, 6, 0, 0))
	b.any(0, alloc(1, 3, 0, 0))
	h, k := handle(1, 0, 192), handle(1, 0, 256)
	for n := range 6 {
		b.ok(0, store(0, n, uint8(n%2)))
	}
	b.slots(h, h, k, h, k, h, k)
	b.slots(k, 0, 0, 0)
	b.ok(0, store(1, 2, 0))
	b.slots(k, 0, 0, h)
	b.ok(0, setTo(3, 0))
	b.ok(0, store(0, 3, 3))
	b.slots(h, h, k, h, 0, h, k)
	b.ok(1, setTo(1, h))
	b.gives(1, load(1, 1, 5), k) // R and H are one register
	b.gives(1, load(0, 1, 2), h)
	b.gives(1, load(3, 0, 3), 0)
	b.regs(1, h, k, 0, 0)
	b.regs(0, h, k, 0, 0)
}

// within makes four scopes of 64 bytes each, puts the thread 0 into 1, into 2 from there, back in 1, and into 3 from there, and lets the register n have an object of two slots of the scope n.
func within(t *testing.T) *both {
	b := begun(t, planned(5, 2), nil)
	for n := 1; n <= 4; n++ {
		b.does(0, create(64), api.OK, n)
	}
	b.any(0, alloc(0, 2, 0, 0))
	b.ok(0, enter(1))
	b.any(0, alloc(1, 2, 0, 0))
	b.ok(0, enter(2))
	b.any(0, alloc(2, 2, 0, 0))
	b.ok(0, in(1))
	b.ok(0, enter(3))
	b.any(0, alloc(3, 2, 0, 0))
	return b
}

// P12.3, P12.4: a store is let in just where the scope of what is stored is the same one, or above: not the inner one, and not one beside.
func TestAssign(t *testing.T) {
	may := [4][4]bool{{true, false, false, false}, {true, true, false, false}, {true, true, true, false}, {true, true, false, true}}
	b := within(t)
	for from := range 4 {
		for to := range 4 {
			c := store(uint8(from), to%2, uint8(to))
			if may[from][to] {
				b.ok(0, c)
			} else {
				b.refuses(0, c, api.ErrAssign)
			}
			if from == 0 {
				continue
			}
			if may[from][to] {
				b.ok(0, gate(from, uint8(to)))
				b.portal(from, b.m.Regs(0)[to])
			} else {
				b.refuses(0, gate(from, uint8(to)), api.ErrAssign)
			}
		}
	}
}

// P12.3: two scopes that were both entered from the immortal one are not above one another, in whichever order they come.
func TestAssignBeside(t *testing.T) {
	b := begun(t, planned(3, 1), nil)
	b.does(0, create(64), api.OK, 1)
	b.does(0, create(64), api.OK, 2)
	b.ok(0, enter(1))
	b.any(0, alloc(1, 1, 0, 0))
	b.ok(0, in(0))
	b.ok(0, enter(2))
	b.any(0, alloc(2, 1, 0, 0))
	b.refuses(0, store(1, 0, 2), api.ErrAssign)
	b.refuses(0, store(2, 0, 1), api.ErrAssign)
	b.refuses(0, gate(1, 2), api.ErrAssign)
	b.refuses(0, gate(2, 1), api.ErrAssign)
	b.ok(0, store(2, 0, 2))
	b.ok(0, gate(1, 1))
}

// P12.3: a chain of scopes as deep as may be: each is above all that were entered from it.
func TestAssignDeep(t *testing.T) {
	b := begun(t, api.Plan{Scopes: 7, Threads: 1, Immortal: 64, Heap: 512}, nil)
	var handles []uint64
	for n := range 7 {
		if n > 0 {
			b.does(0, create(64), api.OK, n)
			b.ok(0, enter(n))
		}
		b.any(0, alloc(0, 1, 0, 0))
		handles = append(handles, b.m.Regs(0)[0])
	}
	for from := range 7 {
		for to := range 7 {
			b.ok(0, setTo(0, handles[from]))
			b.ok(0, setTo(1, handles[to]))
			if to <= from {
				b.ok(0, store(0, 0, 1))
			} else {
				b.refuses(0, store(0, 0, 1), api.ErrAssign)
			}
			if from > 0 && to <= from {
				b.ok(0, gate(from, 1))
			} else if from > 0 {
				b.refuses(0, gate(from, 1), api.ErrAssign)
			}
		}
	}
}

// P12.3: a portal is looked at, and put, by who is within; there is none of the immortal scope, nor of what is no scope.
func TestPortals(t *testing.T) {
	b := within(t)
	for _, n := range append(far(), 0, 5, 6, 8) {
		b.refuses(0, look(0, n), api.ErrScope)
		b.refuses(0, gate(n, 0), api.ErrScope)
	}
	b.refuses(0, look(0, 4), api.ErrReach)
	b.refuses(0, gate(4, 0), api.ErrReach)
	b.refuses(1, look(0, 1), api.ErrReach)
	b.refuses(1, gate(1, 0), api.ErrReach) // even of 0
	b.gives(0, look(0, 1), 0)
	b.ok(0, gate(1, 1))
	b.ok(0, gate(2, 2))
	b.ok(0, gate(3, 1))
	h := handle(1, 0, 384)
	b.portal(0, 0)
	b.portal(1, h)
	b.portal(2, handle(2, 0, 448))
	b.portal(3, h)
	b.ok(1, enter(1))
	b.gives(1, look(2, 1), h)
	b.regs(1, 0, 0, h, 0)
	b.refuses(1, look(2, 2), api.ErrReach)
	b.ok(1, gate(1, 0))
	b.portal(1, 0)
	b.gives(1, look(2, 1), 0)
	b.gives(0, look(0, 3), h)
	// Left by all, a scope has none; the others keep theirs.
	b.ok(0, exit())
	b.portal(3, 0)
	b.portal(2, handle(2, 0, 448))
}

// P12.3: who is within only where it allocates, and counted nowhere, reaches just the immortal scope.
func TestReachOfTwo(t *testing.T) {
	b := begun(t, planned(3, 2), nil)
	b.does(0, create(64), api.OK, 1)
	b.does(0, create(64), api.OK, 2)
	b.ok(0, enter(1))
	b.any(0, alloc(0, 1, 0, 0))
	b.ok(1, in(0))
	b.ok(1, setTo(0, handle(1, 0, 256)))
	b.refuses(1, load(1, 0, 0), api.ErrReach)
	b.refuses(1, look(1, 1), api.ErrReach)
	b.any(1, alloc(1, 1, 0, 0))
	b.refuses(1, store(1, 0, 0), api.ErrReach)
	b.ok(1, enter(1))
	b.gives(1, load(2, 0, 0), 0)
	b.refuses(1, store(1, 0, 0), api.ErrAssign)
	b.ok(1, exit())
	b.refuses(1, load(2, 0, 0), api.ErrReach)
}

// P12.3: each Op with wrong numbers in each place is refused, or not, as the plain one tells, and never panics.
func TestWrongNumbers(t *testing.T) {
	numbers := append(far(), 0, 1, 2, 3, 4, 5, 6, 7, 9, 12, 100, 512, 513)
	for op := range uint8(13) {
		b := within(t)
		for _, n := range numbers {
			for _, c := range []api.Call{{Op: op, A: n}, {Op: op, B: n}, {Op: op, C: n}, {Op: op, A: n, B: n, C: n}, {Op: op, R: 1, H: 1, V: 1, A: 1, B: n}, {Op: op, R: 3, H: 3, A: 3, C: n}} {
				b.any(0, c)
				b.any(1, c)
			}
		}
	}
}

// R7: what was handed to New is neither kept nor changed: what becomes of it changes no Model.
func TestHandedInStays(t *testing.T) {
	fins := [][]api.FOp{{sayOp(1), sayOp(2)}, {sayOp(3)}, nil, nil}[:3]
	was := [][]api.FOp{{sayOp(1), sayOp(2)}, {sayOp(3)}, nil}
	b := begun(t, planned(2, 1), fins)
	b.does(0, create(64), api.OK, 1)
	b.ok(0, enter(1))
	for tag := range 3 {
		b.any(0, alloc(0, 0, 0, tag))
	}
	for i := range fins {
		if !slices.Equal(fins[i], was[i]) {
			t.Fatalf("the program %d became %v", i, fins[i])
		}
	}
	fins[0][0], fins[0][1] = holdOp(), sayOp(9)
	fins[1] = []api.FOp{holdOp()}
	fins[2] = []api.FOp{sayOp(9)}
	b.does(0, exit(), api.OK, 2, 3, 1, 2)
	if fins[0][0] != holdOp() || fins[1][0] != holdOp() {
		t.Error("what the caller wrote became something else")
	}
}

// R7: what was told is the caller's own: what becomes of it changes no Model, and what becomes of the Model does not change it.
func TestToldIsOwn(t *testing.T) {
	b := begun(t, planned(3, 1), [][]api.FOp{{sayOp(1), sayOp(2), holdOp()}})
	b.does(0, create(128), api.OK, 1)
	b.ok(0, enter(1))
	b.ok(0, in(1))
	b.any(0, alloc(0, 3, 0, 0))
	b.ok(0, store(0, 1, 0))
	h := handle(1, 0, 256)
	regs, entries := b.m.Regs(0), b.m.Entries(0)
	slots, _ := b.m.Slots(h)
	regs[0], regs[3] = 5, 6
	entries[0], entries[1] = counted(2), counted(2)
	slots[0], slots[1] = 7, 8
	regs, entries, slots = append(regs, 1), append(entries, counted(2)), append(slots, 9)
	b.same()
	b.ok(0, in(0))
	b.ok(0, exit())
	b.ok(0, exit())
	b.ok(0, in(0))
	b.ok(0, setTo(0, 99))
	b.ok(0, exit())
	if !slices.Equal(regs, []uint64{5, 0, 0, 6, 1}) || !slices.Equal(entries, []api.Entry{counted(2), counted(2), counted(2)}) || !slices.Equal(slots, []uint64{7, 8, 0, 9}) {
		t.Errorf("what the caller has became %v, %v, %v", regs, entries, slots)
	}
	said := b.any(0, exit()).Said
	keptSlots, _ := b.m.Slots(h)
	keptRegs, keptEntries := b.m.Regs(0), b.m.Entries(0)
	said[0] = 77
	b.any(0, alloc(1, 0, 0, 0))
	b.does(0, exit(), api.ErrHeld, 1, 1, 2)
	b.ok(0, setTo(2, h))
	b.ok(0, store(2, 0, 2))
	b.ok(0, exit())
	if !slices.Equal(said, []int{77, 2}) || !slices.Equal(keptSlots, []uint64{0, h, 0}) || !slices.Equal(keptRegs, []uint64{99, 0, 0, 0}) || !slices.Equal(keptEntries, []api.Entry{counted(1)}) {
		t.Errorf("what was told became %v, %v, %v, %v", said, keptSlots, keptRegs, keptEntries)
	}
}

// R6: two of one plan have nothing of each other.
func TestTwoAreApart(t *testing.T) {
	fins := [][]api.FOp{{sayOp(1)}}
	a, b := begun(t, planned(3, 2), fins), begun(t, planned(3, 2), fins)
	a.does(0, create(64), api.OK, 1)
	a.ok(0, enter(1))
	a.any(0, alloc(0, 1, 0, 0))
	a.ok(0, gate(1, 0))
	b.same()
	b.gone(handle(1, 0, 256))
	b.does(0, create(512), api.OK, 1)
	b.ok(1, enter(1))
	b.ok(1, setTo(0, handle(1, 0, 256)))
	b.refuses(1, load(1, 0, 0), api.ErrHandle)
	a.same()
	a.does(0, exit(), api.OK, 1, 1)
	b.same()
}

// R1: one that no New made has no threads and no scopes, and panics of nothing.
func TestNobodyMadeIt(t *testing.T) {
	m := new(Model)
	for _, n := range []int{-1, 0, 1, 7} {
		for _, c := range everyCall() {
			if a, err := m.Do(n, c); a.Code != api.OK || a.N != 0 || a.Said != nil || err != api.ErrNone {
				t.Errorf("Do(%d, %v) = %v, %d", n, c, a, err)
			}
		}
		if c, err := m.Ctl(n); c != (api.Ctl{}) || err != api.ErrScope {
			t.Errorf("Ctl(%d) = %v, %d", n, c, err)
		}
		if len(m.Regs(n)) != 0 || len(m.Entries(n)) != 0 || m.Portal(n) != 0 || m.Used(n) != 0 {
			t.Errorf("%d has something", n)
		}
	}
	if l, ok := m.Slots(40); l != nil || ok {
		t.Errorf("Slots(40) = %v, %v", l, ok)
	}
}
