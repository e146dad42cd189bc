package model

import (
	"math"
	"math/rand"
	"testing"

	"penfold/api"
)

// turn is a call, and who makes it.
type turn struct {
	thread int
	call   api.Call
}

// states are the rows behind which all short rows of calls are made: of two threads, two scopes of 48 bytes, and finalizers of which that of the tag 1 holds.
func states() [][]turn {
	made := []turn{{0, create(48)}, {0, create(48)}}
	alone := append(made[:2:2], turn{0, enter(1)}, turn{0, alloc(0, 1, 0, 0)})
	two := append(alone[:4:4], turn{1, enter(1)}, turn{1, setTo(0, handle(1, 0, 256))})
	nested := append(alone[:4:4], turn{0, enter(2)}, turn{0, alloc(1, 1, 0, 1)})
	held := append(alone[:4:4], turn{0, alloc(1, 0, 0, 1)}, turn{0, store(0, 0, 1)}, turn{0, gate(1, 0)}, turn{0, exit()})
	again := append(alone[:4:4], turn{0, exit()}, turn{0, enter(1)})
	return [][]turn{nil, made, alone, two, nested, held, again}
}

// turns are those of which short rows are made.
func turns() []turn {
	var l []turn
	for _, c := range []api.Call{
		create(48), destroy(1), enter(1), enter(2), exit(), in(0), in(1), alloc(0, 1, 0, 0), alloc(1, 0, 0, 1), load(1, 0, 0), store(0, 0, 0), store(0, 0, 1), store(1, 0, 0), look(0, 1), gate(1, 0), gate(2, 0),
	} {
		l = append(l, turn{0, c}, turn{1, c})
	}
	return l
}

// P12.1 to P12.4: every row of at most three calls by two threads, from each of some states. All is asked behind the last one: what is behind those ahead of it a shorter row asks.
func TestEveryRow(t *testing.T) {
	fins := [][]api.FOp{{sayOp(1), skipOp(0, 1), sayOp(2)}, {holdOp()}}
	l := turns()
	rows := 1
	for most := 1; most <= 3; most++ {
		rows *= len(l)
		for _, state := range states() {
			for row := range rows {
				m, _ := New(planned(3, 2), fins)
				b := &both{t: t, m: m, x: plainOf(planned(3, 2), fins)}
				for _, x := range state {
					b.answered(x.thread, x.call)
				}
				rest := row
				for range most - 1 {
					x := l[rest%len(l)]
					b.answered(x.thread, x.call)
					rest /= len(l)
				}
				b.any(l[rest].thread, l[rest].call)
			}
		}
	}
}

// chance makes calls, most of which may be done; those that are made deep enter more than they leave.
type chance struct {
	*rand.Rand
	b    *both
	deep bool
}

func (r chance) register() uint8 {
	if r.Intn(40) == 0 {
		return uint8(3 + r.Intn(5))
	}
	return uint8(r.Intn(4))
}

func (r chance) scope() int {
	if r.Intn(20) == 0 {
		return r.Intn(14) - 3
	}
	return r.Intn(r.b.x.p.Scopes)
}

// few is one of so many, or, now and then, one that is just too small or too great, or far from it.
func (r chance) few(n int) int {
	if r.Intn(30) == 0 {
		return []int{-1, n, math.MaxInt, math.MinInt}[r.Intn(4)]
	}
	return r.Intn(n)
}

// number is what a register may be set to: the handle of an object that there is, or was, or one beside it.
func (r chance) number() int {
	if len(r.b.x.things) == 0 || r.Intn(8) == 0 {
		return []int{0, 1, -1, int(handle(1, 0, 192)), int(r.Uint64())}[r.Intn(5)]
	}
	h := r.b.x.things[r.Intn(len(r.b.x.things))].handle
	if r.Intn(4) == 0 {
		h += []uint64{1, 2, 1 << 24, 1 << 32, 1 << 13, 1 << 60, 1<<64 - 1, 1<<64 - 1<<32}[r.Intn(8)]
	}
	return int(h)
}

func (r chance) call() api.Call {
	c := api.Call{R: r.register(), H: r.register(), V: r.register()}
	weighed := []uint8{0, 1, 1, 2, 3, 4, 4, 4, 4, 5, 5, 5, 6, 7, 7, 7, 7, 8, 8, 8, 9, 9, 9, 9, 10, 10, 11, 11, 12}
	c.Op = weighed[r.Intn(len(weighed))]
	if r.deep && c.Op == api.CaExit {
		c.Op = []uint8{api.CaEnter, api.CaIn, api.CaExit}[r.Intn(3)]
	}
	switch c.Op {
	case api.CaSet:
		c.A = r.number()
	case api.CaCreate:
		c.A = r.few(120)
	case api.CaAlloc:
		c.A, c.B, c.C = r.few(4), 0, r.few(8)
		if r.Intn(3) == 0 {
			c.B = r.few(20)
		}
	case api.CaLoad, api.CaStore:
		c.B = r.few(3)
	default:
		c.A = r.scope()
	}
	return c
}

// fins are some that may be.
func (r chance) fins() [][]api.FOp {
	var l [][]api.FOp
	for range r.Intn(9) {
		var ops []api.FOp
		for range r.Intn(6) {
			ops = append(ops, []api.FOp{sayOp(r.Intn(100)), sayOp(r.Intn(100)), clearOp(r.Intn(3)), moveOp(r.Intn(3), r.Intn(3)), skipOp(r.Intn(3), r.Intn(4)), holdOp()}[r.Intn(5+r.Intn(2))])
		}
		l = append(l, ops)
	}
	return l
}

// P12.1 to P12.4: long rows of calls, right and wrong ones, by which each code is met, over each number of scopes and threads, with all of it asked behind each.
func TestRows(t *testing.T) {
	codes := map[api.Errno]int{}
	for seed := range 400 {
		r := chance{Rand: rand.New(rand.NewSource(int64(seed))), deep: seed%3 == 0}
		p := api.Plan{Scopes: 1 + seed%8, Threads: 1 + seed/8%4, Immortal: 8 * r.Intn(30), Heap: 8 * r.Intn(80)}
		r.b = begun(t, p, r.fins())
		for range 600 {
			codes[r.b.any(r.Intn(p.Threads), r.call()).Code]++
		}
	}
	answered := []api.Errno{api.OK, api.ErrArg, api.ErrScope, api.ErrInUse, api.ErrMany, api.ErrGround, api.ErrCycle, api.ErrCount, api.ErrMemory, api.ErrHandle, api.ErrStale, api.ErrReach, api.ErrSlot, api.ErrAssign, api.ErrEmpty, api.ErrDeep, api.ErrHeld}
	for _, code := range answered {
		if codes[code] == 0 {
			t.Errorf("these rows did not meet the code %d", code)
		}
		delete(codes, code)
	}
	if len(codes) > 0 {
		t.Errorf("these rows met codes by which no call is answered: %v", codes)
	}
}

// P12.4: what a held finalizer moved, and what is stored, looked at and gated through several threads, stays an object of the same scope, or of one above it, till that is left.
func TestNoLooseEnd(t *testing.T) {
	for seed := range 60 {
		r := chance{Rand: rand.New(rand.NewSource(int64(1000 + seed)))}
		r.b = begun(t, api.Plan{Scopes: 4, Threads: 3, Immortal: 256, Heap: 1536}, [][]api.FOp{{moveOp(0, 1), moveOp(1, 2), holdOp()}, {moveOp(2, 0), clearOp(0)}})
		for n := 1; n <= 3; n++ {
			r.b.does(0, create(512), api.OK, n)
		}
		for range 500 {
			n := 1 + r.Intn(3)
			c := []api.Call{enter(n), in(n), in(0), exit(), alloc(r.register(), 3, 0, r.Intn(3)), store(r.register(), r.Intn(3), r.register()), store(r.register(), r.Intn(3), r.register()), load(r.register(), r.register(), r.Intn(3)), gate(n, r.register()), look(r.register(), n)}[r.Intn(10)]
			r.b.any(r.Intn(3), c)
		}
	}
}
