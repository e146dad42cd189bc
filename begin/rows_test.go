package begin

import (
	"math"
	"math/rand"
	"slices"
	"testing"

	"penfold/api"
	"penfold/model"
)

// turn is a call, and who makes it.
type turn struct {
	thread int
	call   api.Call
}

// made is a model of a plan.
type made struct {
	t *testing.T
	p api.Plan
	m *model.Model
}

func madeOf(t *testing.T, p api.Plan, fins [][]api.FOp, row []turn) made {
	t.Helper()
	m, err := model.New(p, fins)
	if err != api.OK {
		t.Fatalf("model.New(%v, %v): %d", p, fins, err)
	}
	b := made{t, p, m}
	for _, x := range row {
		b.answers(x)
	}
	return b
}

// begins is how a call begins, of what its thread has in the model.
func (b made) begins(x turn) api.Run {
	return Of(b.p, b.m.Regs(x.thread), b.m.Entries(x.thread), x.call)
}

// answers makes a call at once, and holds what the model answers against how it begins.
func (b made) answers(x turn) api.Answer {
	b.t.Helper()
	return b.agrees(x, b.begins(x))
}

// agrees makes a call, and holds what the model answers against a Run that began a while ago. What refuses a call that goes on is asked ahead of it, as the call may change that.
func (b made) agrees(x turn, r api.Run) api.Answer {
	b.t.Helper()
	may := b.may(r)
	a, err := b.m.Do(x.thread, x.call)
	if err != api.OK {
		b.t.Fatalf("Do(%d, %v): %d", x.thread, x.call, err)
	}
	if r.Pc == api.PcTell && (a.Code != r.Answer.Code || a.N != 0 || len(a.Said) != 0) {
		b.t.Fatalf("%v of the thread %d is told %d ahead of its first step; the model answers %v", x.call, x.thread, r.Answer.Code, a)
	}
	if r.Pc != api.PcTell && !slices.Contains(may, a.Code) {
		b.t.Fatalf("%v of the thread %d goes on to Pc %d; the model refuses it by %d", x.call, x.thread, r.Pc, a.Code)
	}
	return a
}

// may are the Codes by which the model may answer a call that goes on: no one that was looked at, unless others, or a number that was not looked at, bring it.
func (b made) may(r api.Run) []api.Errno {
	l := []api.Errno{api.OK}
	switch r.Call.Op {
	case api.CaCreate:
		return append(l, api.ErrMany, api.ErrGround)
	case api.CaDestroy:
		return append(append(l, api.ErrInUse), b.mayBeFree(r.Call.A)...)
	case api.CaEnter:
		return append(append(l, api.ErrCycle, api.ErrCount), b.mayBeFree(r.Call.A)...)
	case api.CaExit:
		return append(l, api.ErrHeld)
	case api.CaAlloc:
		return append(l, api.ErrMemory)
	case api.CaLoad:
		return append(append(l, api.ErrSlot), b.mayBeNone(r.Hand)...)
	case api.CaStore:
		l = append(append(l, api.ErrSlot, api.ErrAssign), b.mayBeNone(r.Hand)...)
		if _, err := Check(b.p, r.Chain, r.Val); r.Val != 0 && err != api.OK {
			return append(l, err)
		}
		return append(l, b.mayBeNone(r.Val)...)
	case api.CaGate:
		if r.Pc == api.PcValCtl {
			return append(append(l, api.ErrAssign), b.mayBeNone(r.Val)...)
		}
	}
	return l
}

// mayBeFree is the Code of a scope that is in the plan, but that nobody has made.
func (b made) mayBeFree(scope int) []api.Errno {
	if c, err := b.m.Ctl(scope); err != api.OK || c.State != api.Free {
		return nil
	}
	return []api.Errno{api.ErrScope}
}

// mayBeNone are the Codes of a number that is a handle of a scope that is reached, but that no object has now.
func (b made) mayBeNone(h uint64) []api.Errno {
	if _, ok := b.m.Slots(h); ok || h == 0 {
		return nil
	}
	return []api.Errno{api.ErrHandle, api.ErrStale}
}

// rows are those behind which each call is made: of two threads, two scopes of 64 bytes, and finalizers of which that of the tag 1 holds.
func rows() [][]turn {
	creates := []turn{{0, api.Call{Op: 2, A: 64}}, {0, api.Call{Op: 2, A: 64}}}
	within := append(creates[:2:2], turn{0, api.Call{Op: 4, A: 1}}, turn{0, api.Call{Op: 7, A: 2}})
	other := append(creates[:2:2], turn{1, api.Call{Op: 4, A: 1}}, turn{1, api.Call{Op: 7, A: 1}}, turn{0, setTo(0, handle(1, 0, 320))})
	nested := append(within[:4:4], turn{0, api.Call{Op: 4, A: 2}}, turn{0, api.Call{Op: 7, R: 1, A: 1}}, turn{0, api.Call{Op: 6, A: 1}})
	deep := append(within[:4:4], slices.Repeat([]turn{{0, api.Call{Op: 6, A: 1}}}, 5)...)
	held := append(within[:4:4], turn{0, api.Call{Op: 7, R: 1, C: 1}}, turn{0, api.Call{Op: 5}})
	stale := append(within[:4:4], turn{0, api.Call{Op: 5}}, turn{0, api.Call{Op: 4, A: 1}}, turn{0, setTo(2, handle(3, 0, 384))}, turn{0, setTo(3, 9)})
	return [][]turn{nil, creates, within, other, nested, deep, held, stale}
}

func setTo(r uint8, h uint64) api.Call { return api.Call{Op: 1, R: r, A: int(h)} }

// P13.4: each Op, with numbers around each bound, behind each of some rows of calls: what is refused ahead of it the model refuses so, and what goes on it does not refuse for that.
func TestModelAgrees(t *testing.T) {
	fins := [][]api.FOp{{{Op: api.FoSay, A: 1}}, {{Op: api.FoHold}}}
	met := map[api.Errno]int{}
	for _, row := range rows() {
		for op := range uint8(13) {
			for _, n := range append(near(), math.MaxInt, math.MinInt, 1<<32+1) {
				for _, reg := range []uint8{0, 1, 2, 3, 4, 255} {
					for _, c := range []api.Call{{Op: op, R: reg, A: n}, {Op: op, H: reg, A: 1, B: n}, {Op: op, V: reg, A: n}, {Op: op, H: 1, V: reg, A: 1, B: n, C: n}, {Op: op, R: reg, H: reg, V: reg, A: 2, C: n}} {
						b := madeOf(t, planned(4), fins, row)
						r := b.begins(turn{0, c})
						b.agrees(turn{0, c}, r)
						met[r.Answer.Code]++
					}
				}
			}
		}
	}
	wantMet(t, met)
}

// wantMet asks that each Code by which a call may be refused ahead of its first step was met, and no other one.
func wantMet(t *testing.T, met map[api.Errno]int) {
	t.Helper()
	for _, code := range []api.Errno{api.OK, api.ErrArg, api.ErrScope, api.ErrHandle, api.ErrReach, api.ErrEmpty, api.ErrDeep} {
		if met[code] == 0 {
			t.Errorf("these calls did not meet the code %d", code)
		}
		delete(met, code)
	}
	if len(met) > 0 {
		t.Errorf("these calls met codes by which none is refused ahead of its first step: %v", met)
	}
}

// chance makes calls, most of which go on.
type chance struct {
	*rand.Rand
	b made
}

func (r chance) register() uint8 {
	if r.Intn(40) == 0 {
		return uint8(3 + r.Intn(5))
	}
	return uint8(r.Intn(4))
}

// few is one of so many, or, now and then, one that is just too small or too great, or far from it.
func (r chance) few(n int) int {
	if r.Intn(20) == 0 {
		return []int{-1, n, n + 1, math.MaxInt, math.MinInt}[r.Intn(5)]
	}
	return r.Intn(n)
}

// number is what some register has, or what is beside that.
func (r chance) number() int {
	h := r.b.m.Regs(r.Intn(r.b.p.Threads))[r.Intn(4)]
	if r.Intn(3) == 0 {
		h += []uint64{1, 2, 1 << 24, 1 << 32, 1 << 13, 1 << 60, 1<<64 - 1, 1<<64 - 1<<32}[r.Intn(8)]
	}
	return int(h)
}

func (r chance) call() api.Call {
	c := api.Call{R: r.register(), H: r.register(), V: r.register()}
	weighed := []uint8{0, 1, 1, 2, 2, 3, 4, 4, 4, 4, 5, 5, 6, 7, 7, 7, 7, 8, 8, 9, 9, 9, 10, 10, 11, 11, 12}
	c.Op = weighed[r.Intn(len(weighed))]
	switch c.Op {
	case api.CaSet:
		c.A = r.number()
	case api.CaCreate:
		c.A = r.few(120)
	case api.CaAlloc:
		c.A, c.B, c.C = r.few(4), r.few(20), r.few(8)
	default:
		c.A, c.B = r.few(r.b.p.Scopes), r.few(3)
	}
	return c
}

// P13.4: long rows of calls by threads that come in between. Between a call's beginning and the place that it takes others make calls of their own: it is refused, or not, as it was when it began.
func TestWhateverOthersDo(t *testing.T) {
	met := map[api.Errno]int{}
	for seed := range 300 {
		r := chance{Rand: rand.New(rand.NewSource(int64(seed)))}
		p := api.Plan{Scopes: 1 + seed%8, Threads: 2 + seed/8%3, Immortal: 8 * r.Intn(30), Heap: 8 * r.Intn(80)}
		r.b = madeOf(t, p, [][]api.FOp{{{Op: api.FoSay, A: 1}}, {{Op: api.FoMove, A: 0, B: 1}}, {{Op: api.FoHold}}}, nil)
		for range 300 {
			thread := r.Intn(p.Threads)
			x := turn{thread, r.call()}
			begun := r.b.begins(x)
			for range r.Intn(6) {
				other := (thread + 1 + r.Intn(p.Threads-1)) % p.Threads
				r.b.answers(turn{other, r.call()})
			}
			if now := r.b.begins(x); !same(now, begun) {
				t.Fatalf("%v of the thread %d began as %v, and, once others were done, as %v", x.call, thread, begun, now)
			}
			r.b.agrees(x, begun)
			met[begun.Answer.Code]++
		}
	}
	wantMet(t, met)
}

// P13.4: calls that a thread makes one behind the other, each refused by what those ahead of it made of the thread.
func TestRefusedInARow(t *testing.T) {
	b := madeOf(t, planned(3), nil, nil)
	for i, x := range []struct {
		c    api.Call
		pc   int
		code api.Errno
	}{
		{api.Call{Op: 5}, api.PcTell, api.ErrEmpty},
		{api.Call{Op: 2, A: 0}, api.PcTell, api.ErrArg},
		{api.Call{Op: 2, A: 64}, api.PcMake, api.OK},
		{api.Call{Op: 10, A: 1}, api.PcTell, api.ErrReach},
		{api.Call{Op: 4, A: 1}, api.PcLook, api.OK},
		{api.Call{Op: 7, A: 1}, api.PcCtl, api.OK},
		{api.Call{Op: 8, R: 1}, api.PcCtl, api.OK},
		{api.Call{Op: 8, R: 1, H: 1}, api.PcTell, api.ErrHandle},
		{api.Call{Op: 11, A: 1, V: 1}, api.PcGate, api.OK},
		{api.Call{Op: 11, A: 1}, api.PcValCtl, api.OK},
		{api.Call{Op: 11, A: 2}, api.PcTell, api.ErrReach},
		{api.Call{Op: 6, A: 2}, api.PcTell, api.ErrReach},
		{api.Call{Op: 6, A: 0}, api.PcTell, api.OK},
		{api.Call{Op: 6, A: 1}, api.PcTell, api.OK},
		{api.Call{Op: 6, A: 1}, api.PcTell, api.OK},
		{api.Call{Op: 6, A: 1}, api.PcTell, api.OK},
		{api.Call{Op: 6, A: 0}, api.PcTell, api.OK},
		{api.Call{Op: 6, A: 0}, api.PcTell, api.ErrDeep},
		{api.Call{Op: 4, A: 1}, api.PcTell, api.ErrDeep},
		{api.Call{Op: 4, A: 3}, api.PcTell, api.ErrScope},
		{api.Call{Op: 5}, api.PcTell, api.OK},
		{api.Call{Op: 5}, api.PcTell, api.OK},
		{api.Call{Op: 5}, api.PcTell, api.OK},
		{api.Call{Op: 5}, api.PcTell, api.OK},
		{api.Call{Op: 5}, api.PcTell, api.OK},
		{api.Call{Op: 8, R: 1}, api.PcCtl, api.OK},
		{api.Call{Op: 5}, api.PcSee, api.OK},
		{api.Call{Op: 8, R: 1}, api.PcTell, api.ErrReach},
		{api.Call{Op: 9, V: 1}, api.PcTell, api.ErrReach},
		{api.Call{Op: 3, A: 1}, api.PcMake, api.OK},
		{api.Call{Op: 5}, api.PcTell, api.ErrEmpty},
	} {
		r := b.begins(turn{0, x.c})
		if a := b.agrees(turn{0, x.c}, r); r.Pc != x.pc || a.Code != x.code {
			t.Fatalf("the call %d, %v: Pc %d, Code %d, answered %v; want Pc %d, Code %d", i, x.c, r.Pc, r.Answer.Code, a, x.pc, x.code)
		}
	}
}
