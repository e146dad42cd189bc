package found

import (
	"math"
	"math/rand"
	"testing"

	"penfold/api"
	"penfold/begin"
	"penfold/ctl"
	"penfold/model"
)

// both are an arena and a ground, and the model of the same plan.
type both struct {
	made
	mo *model.Model
	// The scopes that somebody drains: in the model that one is within still.
	drained map[int]bool
}

func bothOf(t *testing.T, p api.Plan) both {
	t.Helper()
	// The first object of a scope whose tag is 0 holds it once.
	mo, err := model.New(p, [][]api.FOp{{{Op: api.FoHold}}})
	if err != api.OK {
		t.Fatalf("model.New(%v): %d", p, err)
	}
	return both{madeOf(t, p), mo, map[int]bool{}}
}

// does is what the model answers.
func (b both) does(thread int, c api.Call) api.Answer {
	b.t.Helper()
	a, err := b.mo.Do(thread, c)
	if err != api.OK {
		b.t.Fatalf("Do(%d, %v): %d", thread, c, err)
	}
	return a
}

// agrees makes a call of both, and asks that it is told what the model answers.
func (b both) agrees(thread int, c api.Call) api.Answer {
	b.t.Helper()
	r := begin.Of(b.p, b.mo.Regs(thread), b.mo.Entries(thread), c)
	var told api.Answer
	if r.Pc == api.PcMake {
		told = b.steps(r).Answer
	} else {
		// What its thread alone refuses comes to no step of this layer.
		b.refuses(r)
		told = begin.Tell(r, r.Answer.Code, 0).Answer
	}
	a := b.does(thread, c)
	if told.Code != a.Code || told.N != a.N || len(told.Said) != 0 || len(a.Said) != 0 {
		b.t.Fatalf("of %v %v of the thread %d is told %v; the model answers %v", b.p, c, thread, told, a)
	}
	b.match()
	return told
}

// match asks that each scope is what the model says, but where one is drained.
func (b both) match() {
	b.t.Helper()
	for n := range b.p.Scopes {
		c, err := Ctl(b.p, b.a, n)
		want, wantErr := b.mo.Ctl(n)
		if b.drained[n] && want.Count == 1 {
			want.State, want.Count = api.Drain, 0
		}
		if c != want || err != wantErr {
			b.t.Fatalf("of %v the scope %d is %v, %d; the model's is %v, %d", b.p, n, c, err, want, wantErr)
		}
	}
}

// becomes puts what becomes of a scope by a call of another layer.
func (b both) becomes(scope int, change func(api.Ctl) (api.Ctl, api.Errno)) {
	b.t.Helper()
	old, err := Ctl(b.p, b.a, scope)
	if err != api.OK {
		b.t.Fatalf("Ctl(%d): %d", scope, err)
	}
	c, err := change(old)
	if err != api.OK {
		b.t.Fatalf("of the scope %d, %v: %d", scope, old, err)
	}
	b.is(scope, c.State, c.Count, c.Parent, c.Epoch)
}

// enters is a whole call of its own, of which the arena sees what the model let in.
func (b both) enters(thread, scope int) {
	b.t.Helper()
	from := 0
	for _, e := range b.mo.Entries(thread) {
		from = e.Scope
	}
	if b.drained[scope] || b.does(thread, api.Call{Op: api.CaEnter, A: scope}).Code != api.OK {
		return
	}
	b.becomes(scope, func(c api.Ctl) (api.Ctl, api.Errno) { return ctl.Enter(c, from) })
	b.match()
}

// leaves is an exit; while the last one drains its scope others make what they like.
func (b both) leaves(thread int, meanwhile func()) {
	b.t.Helper()
	entries := b.mo.Entries(thread)
	if len(entries) == 0 {
		return
	}
	scope := entries[len(entries)-1].Scope
	b.becomes(scope, ctl.Leave)
	if c, _ := Ctl(b.p, b.a, scope); c.State != api.Drain {
		b.does(thread, api.Call{Op: api.CaExit})
		b.match()
		return
	}
	b.drained[scope] = true
	b.match()
	meanwhile()
	a := b.does(thread, api.Call{Op: api.CaExit})
	delete(b.drained, scope)
	if a.Code == api.ErrHeld {
		b.becomes(scope, ctl.Hold)
	} else {
		b.becomes(scope, ctl.Open)
	}
	b.match()
}

// P14.3: each number around each bound, of each plan, behind each number of scopes that are made.
func TestModelAgrees(t *testing.T) {
	numbers := append(far(), 0, 1, 2, 7, 8, 9, 15, 16, 17, 8191, 8192, 8193)
	for scopes := 1; scopes <= 8; scopes++ {
		for _, heap := range []int{0, 8, 24, 64, 8192} {
			for ahead := range scopes + 1 {
				b := bothOf(t, planned(scopes, heap))
				for n := range ahead {
					b.agrees(n%2, api.Call{Op: api.CaCreate, A: 8 + n})
				}
				for i, n := range numbers {
					b.agrees(i%2, api.Call{Op: api.CaDestroy, A: n})
					b.agrees(i%2, api.Call{Op: api.CaCreate, A: n})
				}
			}
		}
	}
}

// P14.3: of a scope that is entered, twice, drained, held, and left by all, each by its own, and each create and destroy in between.
func TestModelAgreesOfWhoIsWithin(t *testing.T) {
	b := bothOf(t, planned(3, 64))
	destroy := func(code api.Errno) {
		t.Helper()
		if a := b.agrees(1, api.Call{Op: api.CaDestroy, A: 1}); a.Code != code {
			t.Fatalf("destroy is told %v; want %d", a, code)
		}
	}
	create := func(size int, code api.Errno, n int) {
		t.Helper()
		if a := b.agrees(1, api.Call{Op: api.CaCreate, A: size}); a.Code != code || a.N != n {
			t.Fatalf("create of %d is told %v; want {%d %d}", size, a, code, n)
		}
	}
	destroy(api.ErrScope)
	create(40, api.OK, 1)
	b.enters(0, 1)
	b.does(0, api.Call{Op: api.CaAlloc})
	destroy(api.ErrInUse)
	b.enters(0, 1) // from itself: no
	b.enters(1, 1)
	destroy(api.ErrInUse)
	b.leaves(0, nil)
	destroy(api.ErrInUse)
	b.leaves(1, func() { // a finalizer holds it
		destroy(api.ErrInUse)
		create(24, api.OK, 2)
		create(1, api.ErrMany, 0)
	})
	destroy(api.ErrInUse)
	b.leaves(1, func() {
		destroy(api.ErrInUse)
		b.agrees(0, api.Call{Op: api.CaDestroy, A: 2})
		create(25, api.ErrGround, 0)
	})
	destroy(api.OK)
	create(64, api.OK, 1)
	b.tells(1, api.Ctl{State: api.Idle, Parent: -1, Epoch: 2}, api.OK)
}

// few is one of so many, or, now and then, one that is just too small or too great, or far from it.
func few(chance *rand.Rand, n int) int {
	if chance.Intn(20) == 0 {
		return []int{-1, n, n + 1, math.MaxInt, math.MinInt}[chance.Intn(5)]
	}
	return chance.Intn(n)
}

// P14.3: long rows of calls by threads that come in between, by chance with a seed.
func TestModelAgreesInLongRows(t *testing.T) {
	met := map[api.Errno]int{}
	for seed := range 150 {
		chance := rand.New(rand.NewSource(int64(seed)))
		b := bothOf(t, api.Plan{Scopes: 1 + seed%8, Threads: 1 + seed/8%4, Immortal: 8 * chance.Intn(4), Heap: 8 * chance.Intn(40)})
		makesOne := func() {
			c := api.Call{Op: api.CaCreate, R: uint8(chance.Intn(9)), A: few(chance, b.p.Heap/2+9)}
			if chance.Intn(2) == 0 {
				c.Op, c.A = api.CaDestroy, few(chance, b.p.Scopes)
			}
			met[b.agrees(chance.Intn(b.p.Threads), c).Code]++
		}
		for range 150 {
			thread := chance.Intn(b.p.Threads)
			switch chance.Intn(8) {
			case 0, 1:
				b.enters(thread, 1+chance.Intn(b.p.Scopes))
			case 2:
				b.leaves(thread, func() {
					for range chance.Intn(4) {
						makesOne()
					}
				})
			case 3:
				b.does(thread, api.Call{Op: api.CaAlloc, C: chance.Intn(3)})
			default:
				makesOne()
			}
		}
	}
	for _, code := range []api.Errno{api.OK, api.ErrArg, api.ErrScope, api.ErrInUse, api.ErrMany, api.ErrGround} {
		if met[code] == 0 {
			t.Errorf("these rows did not meet the code %d", code)
		}
	}
}
