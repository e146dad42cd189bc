package take

import (
	"math/rand"
	"slices"
	"testing"

	"penfold/api"
	"penfold/begin"
	"penfold/ctl"
	"penfold/found"
	"penfold/model"
)

// inEveryOrder visits each order of so many steps of each of a row of threads.
func inEveryOrder(left, order []int, visit func([]int)) {
	ended := true
	for i, n := range left {
		if n > 0 {
			ended = false
			left[i]--
			inEveryOrder(left, append(order, i), visit)
			left[i]++
		}
	}
	if ended {
		visit(order)
	}
}

// asked is an object that somebody allocates.
type asked struct{ scope, slots, bytes, tag int }

func (x asked) size() int { return 8 * wordsOf(x.slots, x.bytes) }

// apart asks that what was claimed is within the extents, and that no two have a word together.
func (m *made) apart(l []asked, runs []api.Run) {
	m.t.Helper()
	owner := make([]int, len(m.words))
	for i, r := range runs {
		if r.Answer.Code != api.OK {
			continue
		}
		at := r.Answer.N % 16777216 * 8
		base, budget := int(m.words[8*l[i].scope+1]), int(m.words[8*l[i].scope+2])
		if at < base || at+l[i].size() > base+budget {
			m.t.Fatalf("of %v %v is at %d, which is not within %d, %d", m.p, l[i], at, base, budget)
		}
		for w := at / 8; w < (at+l[i].size())/8; w++ {
			if owner[w] != 0 {
				m.t.Fatalf("of %v %v and %v both have the word at %d", m.p, l[owner[w]-1], l[i], 8*w)
			}
			owner[w] = i + 1
			if w > at/8+1 && m.words[w] != 0 {
				m.t.Fatalf("of %v the word at %d of %v is %d", m.p, 8*w, l[i], m.words[w])
			}
		}
	}
}

// races lets these come in between each other in every order: each takes four steps, and who claims first has the room.
func races(t *testing.T, room int, l ...asked) {
	t.Helper()
	left := slices.Repeat([]int{4}, len(l))
	inEveryOrder(left, nil, func(order []int) {
		m := madeOf(t, planned(3, room, 2*room))
		m.lives(room, 7)
		m.lives(room, 8)
		runs, made, used := make([]api.Run, len(l)), make([]int, len(l)), make([]int, 3)
		for i, x := range l {
			runs[i] = m.begins(x.scope, x.slots, x.bytes, x.tag)
		}
		for _, i := range order {
			runs[i] = m.steps(runs[i])
			made[i]++
			if runs[i].Done != (made[i] == 4) {
				t.Fatalf("in the order %v the one %d is behind %d steps %v", order, i, made[i], runs[i])
			}
			if !runs[i].Done {
				continue
			}
			x, a := l[i], runs[i].Answer
			want := api.Answer{Code: api.ErrMemory}
			if used[x.scope]+x.size() <= room {
				epoch := []int{0, 7, 8}[x.scope]
				want = api.Answer{N: (192+room*x.scope+used[x.scope])/8 + x.scope*16777216 + epoch*4294967296}
				used[x.scope] += x.size()
			}
			if a.Code != want.Code || a.N != want.N {
				t.Fatalf("in the order %v the one %d is told %v; want %v", order, i, a, want)
			}
		}
		m.apart(l, runs)
	})
}

// P15.2: two in one scope, in every order: both have room.
func TestTwoInEveryOrder(t *testing.T) {
	for scope := range 3 {
		races(t, 64, asked{scope, 1, 0, 1}, asked{scope, 0, 17, 2})
		races(t, 64, asked{scope, 2, 9, 3}, asked{scope, 0, 0, 4})
		races(t, 128, asked{scope, 6, 0, 0}, asked{scope, 6, 0, 0})
	}
}

// P15.1, P15.2: two in one scope, in every order: each has room alone, and who comes second is refused.
func TestSecondIsRefused(t *testing.T) {
	for scope := range 3 {
		races(t, 32, asked{scope, 1, 0, 1}, asked{scope, 0, 8, 2})
		races(t, 40, asked{scope, 3, 0, 1}, asked{scope, 0, 0, 2})
		races(t, 40, asked{scope, 1, 8, 1}, asked{scope, 0, 1, 2})
	}
}

// P15.2: one that is refused whoever is first, beside one that is let in.
func TestRefusedBeside(t *testing.T) {
	races(t, 32, asked{1, 6, 0, 1}, asked{1, 0, 8, 2})
	races(t, 8, asked{0, 0, 0, 1}, asked{2, 0, 0, 2})
}

// P15.2: two in two scopes, in every order: neither keeps room from the other.
func TestTwoScopesInEveryOrder(t *testing.T) {
	for scope := range 3 {
		for other := range 3 {
			if scope != other {
				races(t, 32, asked{scope, 2, 0, 1}, asked{other, 0, 16, 2})
				races(t, 24, asked{scope, 1, 0, 1}, asked{other, 2, 0, 2})
			}
		}
	}
}

// P15.2: three, in one scope and in two, in every order.
func TestThreeInEveryOrder(t *testing.T) {
	races(t, 48, asked{1, 0, 0, 1}, asked{1, 1, 0, 2}, asked{1, 0, 8, 3})
	races(t, 32, asked{0, 0, 0, 1}, asked{2, 1, 0, 2}, asked{0, 0, 1, 3})
}

// P15.2: it takes four steps, whatever others do ahead of each of them.
func TestFourStepsWhateverOthersDo(t *testing.T) {
	others := []func(m *made, n int){
		func(m *made, n int) { m.ends(m.begins(n, 0, 0, 0)) },
		func(m *made, n int) { m.ends(m.begins(0, 1, 1, 1)) },
		func(m *made, n int) { // all that is left
			for m.ends(m.begins(n, 0, 0, 0)).Answer.Code == api.OK {
			}
		},
		func(m *made, n int) { m.makes(8) },
		func(m *made, n int) { m.unmakes(n, api.ErrInUse) },
		func(m *made, n int) { m.unmakes(m.makes(16), api.OK) },
		func(m *made, n int) { m.is(n, 2, int(m.words[8*n]/4%256)%7+1, 0, 6) }, // others enter and leave it
		func(m *made, n int) { m.puts(64*n+32, m.words[8*n+32/8]+1) },          // its portal
		func(m *made, n int) { m.puts(int(m.words[8*n+1])+16, 16777299) },      // a slot
	}
	for i := range others {
		for j := range others {
			m := madeOf(t, planned(8, 256, 512))
			n := m.lives(128, 6)
			m.takes(n, 1, 0, 5, (64*8+256)/8+n*16777216+6*4294967296)
			r := m.begins(n, 2, 1, 3)
			for step := range 4 {
				others[i](m, n)
				if step%2 == 1 {
					others[j](m, n)
				}
				r = m.steps(r)
				if r.Done != (step == 3) {
					t.Fatalf("behind %d steps it is %v", step+1, r)
				}
			}
		}
	}
}

// unmakes is a scope less, if nobody is within; what found does to the words is taken as it is.
func (m *made) unmakes(n int, code api.Errno) {
	m.t.Helper()
	told, err := found.Step(m.p, m.a, m.g, api.Run{Call: api.Call{Op: api.CaDestroy, A: n}, Pc: api.PcMake})
	if err != api.OK || told.Answer.Code != code {
		m.t.Fatalf("of %v destroy of %d is %v, %d; want %d", m.p, n, told.Answer, err, code)
	}
	m.looks()
}

// leaves is what becomes of a scope that all left.
func (m *made) leaves(n int) {
	m.t.Helper()
	epoch := (int(m.words[8*n]/262144) + 1) % 16777216
	base, budget := int(m.words[8*n+1]), int(m.words[8*n+2])
	for at := base; at < base+budget; at += 8 {
		m.puts(at, 0)
	}
	m.puts(64*n+24, 0)
	m.puts(64*n+32, 0)
	m.is(n, 1, 0, -1, epoch)
}

// P15.1, P15.2: of a scope that was left, and of ground that another one had, all is free again, and all words are 0; the handles are others, by their epoch.
func TestFreshAgain(t *testing.T) {
	m := madeOf(t, planned(3, 0, 64))
	first, second := m.lives(32, 16777214), m.lives(32, 0)
	for epoch := range 5 {
		was := (16777214 + epoch) % 16777216
		m.takes(first, 2, 0, 1, 24+first*16777216+was*4294967296)
		m.full(first, 0, 0, 1)
		m.takes(second, 0, 9, 2, 28+second*16777216+epoch*4294967296)
		m.puts(208, uint64(24+first*16777216)) // a slot
		m.leaves(first)
		m.leaves(second)
		m.is(first, 2, 1, 0, (was+1)%16777216)
		m.is(second, 2, 1, first, epoch+1)
	}
}

// both are an arena, and the model of the same plan.
type both struct {
	*made
	mo   *model.Model
	runs []api.Run
	// Of each thread, whether it has a call on its way.
	goes []bool
	met  map[api.Errno]int
	// Each that was claimed, with what was asked for.
	claimed []api.Run
}

func bothOf(t *testing.T, p api.Plan, met map[api.Errno]int) *both {
	t.Helper()
	mo, err := model.New(p, nil)
	if err != api.OK {
		t.Fatalf("model.New(%v): %d", p, err)
	}
	return &both{made: madeOf(t, p), mo: mo, runs: make([]api.Run, p.Threads), goes: make([]bool, p.Threads), met: met}
}

// does is what the model answers.
func (b *both) does(thread int, c api.Call) api.Answer {
	b.t.Helper()
	a, err := b.mo.Do(thread, c)
	if err != api.OK {
		b.t.Fatalf("Do(%d, %v): %d", thread, c, err)
	}
	return a
}

// starts is an allocation that begins; one that its thread alone refuses the model refuses so, too.
func (b *both) starts(thread int, c api.Call) {
	b.t.Helper()
	r := begin.Of(b.p, b.mo.Regs(thread), b.mo.Entries(thread), c)
	if r.Pc != api.PcCtl {
		b.refuses(r)
		if a := b.does(thread, c); a.Code != r.Answer.Code || a.N != 0 {
			b.t.Fatalf("of %v %v is told %v; the model answers %v", b.p, c, r.Answer, a)
		}
		b.met[r.Answer.Code]++
		return
	}
	b.runs[thread], b.goes[thread] = r, true
}

// goesOn is a micro-step of a call on its way; behind its point the model has made it, too.
func (b *both) goesOn(thread int) {
	b.t.Helper()
	r := b.steps(b.runs[thread])
	b.runs[thread], b.goes[thread] = r, !r.Done
	if !r.Done {
		return
	}
	a := b.does(thread, r.Call)
	if a.Code != r.Answer.Code || a.N != r.Answer.N || len(r.Answer.Said) != 0 {
		b.t.Fatalf("of %v %v is told %v; the model answers %v", b.p, r.Call, r.Answer, a)
	}
	b.met[a.Code]++
	if a.Code == api.OK {
		b.claimed = append(b.claimed, r)
	}
	b.match()
}

// match asks that each scope, and each object that there is, is what the model says.
func (b *both) match() {
	b.t.Helper()
	for n := range b.p.Scopes {
		c, err := b.mo.Ctl(n)
		w, _ := ctl.Pack(c)
		if w != b.words[8*n] || err != api.OK || b.mo.Used(n) != int(b.words[8*n+3]) {
			b.t.Fatalf("of %v the scope %d is %d, %d used; the model's is %v, %d, %d used", b.p, n, b.words[8*n], b.words[8*n+3], c, err, b.mo.Used(n))
		}
	}
	for _, r := range b.claimed {
		slots, ok := b.mo.Slots(uint64(r.Answer.N))
		if ok != (uint64(r.Answer.N)/4294967296 == b.words[8*r.Area]/262144) || ok && len(slots) != r.Call.A {
			b.t.Fatalf("of %v %v has the slots %v, %v", b.p, r, slots, ok)
		}
		at := r.Answer.N%16777216*8 + 16
		for i, x := range slots {
			if b.words[at/8+i] != x {
				b.t.Fatalf("of %v the slot %d of %v is %d; the model's is %d", b.p, i, r, b.words[at/8+i], x)
			}
		}
	}
}

// atOnce is another call as a whole, of which the arena has what the model says.
func (b *both) atOnce(thread int, c api.Call) {
	b.t.Helper()
	entries := b.mo.Entries(thread)
	if b.does(thread, c).Code != api.OK {
		return
	}
	switch c.Op {
	case api.CaCreate:
		b.makes(c.A)
	case api.CaEnter:
		b.takesOver(c.A)
	case api.CaExit:
		last := entries[len(entries)-1]
		if !last.Counted {
			break
		}
		if now, _ := b.mo.Ctl(last.Scope); now.State == api.Idle {
			b.leaves(last.Scope)
		}
		b.takesOver(last.Scope)
	}
	b.match()
}

// takesOver makes a scope's control word that of the model.
func (b *both) takesOver(n int) {
	b.t.Helper()
	c, err := b.mo.Ctl(n)
	if err != api.OK {
		b.t.Fatalf("Ctl(%d): %d", n, err)
	}
	b.is(n, c.State, c.Count, c.Parent, c.Epoch)
}

// P15.1, P15.2: long rows of allocations by threads that come in between each other, by chance with a seed, while scopes are made, entered and left: what is told is what the model answers at the point.
func TestModelAgreesInLongRows(t *testing.T) {
	met := map[api.Errno]int{}
	for seed := range 150 {
		chance := rand.New(rand.NewSource(int64(seed)))
		p := api.Plan{Scopes: 1 + seed%5, Threads: 1 + seed/5%4, Immortal: 8 * chance.Intn(60), Heap: 8 * chance.Intn(100)}
		b := bothOf(t, p, met)
		for range 300 {
			thread := chance.Intn(p.Threads)
			if b.goes[thread] {
				b.goesOn(thread)
				continue
			}
			scope := chance.Intn(p.Scopes)
			switch chance.Intn(12) {
			case 0:
				b.atOnce(thread, api.Call{Op: api.CaCreate, A: 1 + chance.Intn(300)})
			case 1, 2:
				b.atOnce(thread, api.Call{Op: api.CaEnter, A: scope})
			case 3:
				b.atOnce(thread, api.Call{Op: api.CaIn, A: scope})
			case 4:
				b.atOnce(thread, api.Call{Op: api.CaExit})
			default:
				b.starts(thread, api.Call{Op: api.CaAlloc, R: uint8(chance.Intn(4)), A: chance.Intn(7), B: chance.Intn(1 + 20*chance.Intn(4)), C: chance.Intn(9)})
			}
		}
	}
	for _, code := range []api.Errno{api.OK, api.ErrArg, api.ErrMemory} {
		if met[code] < 100 {
			t.Errorf("these rows met the code %d %d times", code, met[code])
		}
	}
}
