package found

import (
	"math"
	"reflect"
	"slices"
	"testing"

	"penfold/api"
	"penfold/arena"
	"penfold/begin"
	"penfold/ground"
)

// plain is what an arena and a ground must be, told in another way: each word of the arena, and of each byte of the heap whose it is (0: it is free).
type plain struct {
	p     api.Plan
	words []uint64
	heap  []int
}

func plainOf(p api.Plan) *plain {
	x := &plain{p: p, words: make([]uint64, (64*p.Scopes+p.Immortal+p.Heap)/8), heap: make([]int, p.Heap)}
	// Live and one within, where the immortal bytes begin, and how many they are.
	x.words[0], x.words[1], x.words[2] = 2+4, uint64(64*p.Scopes), uint64(p.Immortal)
	return x
}

// free are the runs of bytes that nobody has, as long as may be.
func (x *plain) free() []api.Extent {
	var l []api.Extent
	for i, of := range x.heap {
		if of != 0 {
			continue
		}
		if i == 0 || x.heap[i-1] != 0 {
			l = append(l, api.Extent{At: 64*x.p.Scopes + x.p.Immortal + i})
		}
		l[len(l)-1].Size++
	}
	return l
}

// does is what a call answers; a scope's words are the eight from eight times its number on.
func (x *plain) does(c api.Call) (api.Errno, int) {
	if c.Op == 2 {
		return x.create(c.A)
	}
	return x.destroy(c.A), 0
}

func (x *plain) create(size int) (api.Errno, int) {
	n := 1
	for n < x.p.Scopes && x.words[8*n]%4 != 0 {
		n++
	}
	if n >= x.p.Scopes {
		return 13, 0
	}
	if size < 1 || size > 8192 {
		return 14, 0
	}
	for size%8 != 0 {
		size++
	}
	for _, e := range x.free() {
		if e.Size < size {
			continue
		}
		for i := range size {
			x.heap[e.At-64*x.p.Scopes-x.p.Immortal+i] = n
		}
		x.words[8*n]++
		copy(x.words[8*n+1:], []uint64{uint64(e.At), uint64(size), 0, 0})
		return 0, n
	}
	return 14, 0
}

func (x *plain) destroy(n int) api.Errno {
	if n < 0 || n >= x.p.Scopes || x.words[8*n]%4 == 0 {
		return 11
	}
	if x.words[8*n]%4 != 1 {
		return 12
	}
	for i, of := range x.heap {
		if of == n {
			x.heap[i] = 0
		}
	}
	epoch := x.words[8*n]/262144 + 1
	if epoch == 16777216 {
		epoch = 0
	}
	x.words[8*n], x.words[8*n+1], x.words[8*n+2] = 262144*epoch, 0, 0
	return 0
}

// made is an arena and a ground that New told, and what they must be.
type made struct {
	t *testing.T
	p api.Plan
	a *arena.Arena
	g *ground.Ground
	x *plain
}

func madeOf(t *testing.T, p api.Plan) made {
	t.Helper()
	a, g, err := New(p)
	if a == nil || g == nil || err != api.OK {
		t.Fatalf("New(%v) = %v, %v, %d", p, a, g, err)
	}
	m := made{t, p, a, g, plainOf(p)}
	m.holds()
	return m
}

// holds asks that each word of the arena, and each free extent, is what it must be.
func (m made) holds() {
	m.t.Helper()
	if m.a.Len() != 8*len(m.x.words) {
		m.t.Fatalf("of %v there are %d bytes; want %d", m.p, m.a.Len(), 8*len(m.x.words))
	}
	for i, want := range m.x.words {
		if w, err := m.a.Word(8 * i); w != want || err != api.OK {
			m.t.Fatalf("of %v the word at %d is %d, %d; want %d", m.p, 8*i, w, err, want)
		}
	}
	if free := m.g.Free(); !slices.Equal(free, m.x.free()) {
		m.t.Fatalf("of %v there is free %v; want %v", m.p, free, m.x.free())
	}
}

// puts makes a word what other calls would make of it.
func (m made) puts(at int, x uint64) {
	m.t.Helper()
	if err := m.a.Put(at, x); err != api.OK {
		m.t.Fatalf("Put(%d, %d): %d", at, x, err)
	}
	m.x.words[at/8] = x
}

// is makes a scope's control word the one of these.
func (m made) is(scope, state, count, parent, epoch int) {
	m.t.Helper()
	m.puts(64*scope, word(state, count, parent, epoch))
}

// steps makes a step, and asks that what is told of it is the Code and number that must be, that all else of the Run is as it was, and that all words and free extents are right behind it.
func (m made) steps(r api.Run) api.Run {
	m.t.Helper()
	own := dressed(r)
	told, err := Step(m.p, m.a, m.g, own)
	want := r
	want.Done, want.Point = true, true
	want.Answer = api.Answer{Said: r.Said}
	want.Answer.Code, want.Answer.N = m.x.does(r.Call)
	if err != api.OK || !same(told, want) {
		m.t.Fatalf("of %v the Step of %v = %v, %d; want %v, 0", m.p, r, told, err, want)
	}
	if !same(own, r) {
		m.t.Fatalf("of %v the Step of %v made of it %v", m.p, r, own)
	}
	m.holds()
	return told
}

// refuses asks that a step is none, and changes nothing.
func (m made) refuses(r api.Run) {
	m.t.Helper()
	if told, err := Step(m.p, m.a, m.g, r); err != api.ErrArg || !same(told, api.Run{}) {
		m.t.Fatalf("of %v the Step of %v = %v, %d; want none, 1", m.p, r, told, err)
	}
	m.holds()
}

// answers makes a call, of which the thread itself refuses nothing, and asks that it is told so.
func (m made) answers(op uint8, n int, code api.Errno, number int) {
	m.t.Helper()
	r := begin.Of(m.p, make([]uint64, 4), nil, api.Call{Op: op, A: n})
	if r.Pc != api.PcMake {
		m.t.Fatalf("of %v the call %d of %d begins as %v", m.p, op, n, r)
	}
	if told := m.steps(r).Answer; told.Code != code || told.N != number {
		m.t.Fatalf("of %v the call %d of %d is told %v; want {%d %d}", m.p, op, n, told, code, number)
	}
}

func (m made) creates(size, number int)            { m.t.Helper(); m.answers(2, size, api.OK, number) }
func (m made) noCreate(size int, code api.Errno)   { m.t.Helper(); m.answers(2, size, code, 0) }
func (m made) destroys(scope int)                  { m.t.Helper(); m.answers(3, scope, api.OK, 0) }
func (m made) noDestroy(scope int, code api.Errno) { m.t.Helper(); m.answers(3, scope, code, 0) }

// word is a control word, written out: the State, then the Count from the bit 2 on, the Parent and 1 from the bit 10 on, the Epoch from the bit 18 on.
func word(state, count, parent, epoch int) uint64 {
	return uint64(state + 4*count + 1024*(parent+1) + 262144*epoch)
}

// makes is a Run of a call that makes or unmakes a scope.
func makes(op uint8, n int) api.Run {
	return api.Run{Call: api.Call{Op: op, A: n}, Pc: 1}
}

// full is such a Run whose other fields are all other than zero.
func full(op uint8, n int) api.Run {
	return api.Run{
		Call: api.Call{Op: op, R: 1, H: 2, V: 3, A: n, B: 5, C: 6},
		Pc:   1, Area: 8, Hand: 9, Val: 10, Chain: []api.Entry{{Scope: 1, Counted: true}, {Scope: 2}}, Word: 11, Next: 12, At: 13, Top: 14,
		List: []int{15, 16}, Op: 17, Said: []int{18, 19}, N: 20, Held: true, Point: true,
		Answer: api.Answer{Code: 21, N: 22, Said: []int{23}},
	}
}

// planned is a plan of so many scopes, with so many bytes of heap.
func planned(scopes, heap int) api.Plan {
	return api.Plan{Scopes: scopes, Threads: 2, Immortal: 16, Heap: heap}
}

// far are numbers far from all bounds, and such as would be within if upper bits were lost.
func far() []int {
	l := []int{-1, -2, -7, -8, -64, -256, -65536}
	for d := range 9 {
		l = append(l, math.MaxInt-d, math.MinInt+d)
	}
	for _, bits := range []int{16, 31, 32, 48, 62} {
		l = append(l, 1<<bits, 1<<bits+1, 1<<bits+2, 1<<bits+8, -1<<bits, -1<<bits+1, -1<<bits+2, -1<<bits+8)
	}
	return l
}

// dressed is the same Run, with rows of its own.
func dressed(r api.Run) api.Run {
	r.Chain, r.List, r.Said, r.Answer.Said = slices.Clone(r.Chain), slices.Clone(r.List), slices.Clone(r.Said), slices.Clone(r.Answer.Said)
	return r
}

// bare is the same Run, with nil for each list that is empty.
func bare(r api.Run) api.Run {
	if len(r.Chain) == 0 {
		r.Chain = nil
	}
	for _, l := range []*[]int{&r.List, &r.Said, &r.Answer.Said} {
		if len(*l) == 0 {
			*l = nil
		}
	}
	return r
}

func same(a, b api.Run) bool { return reflect.DeepEqual(bare(a), bare(b)) }
