package take

import (
	"math"
	"reflect"
	"slices"
	"testing"

	"penfold/api"
	"penfold/arena"
	"penfold/begin"
	"penfold/found"
	"penfold/ground"
)

// made is an arena and a ground that found.New told, and each word that the arena must have, told in another way: no layer below is asked.
type made struct {
	t     *testing.T
	p     api.Plan
	a     *arena.Arena
	g     *ground.Ground
	words []uint64
}

// madeOf is that of a plan, as it is laid down.
func madeOf(t *testing.T, p api.Plan) *made {
	t.Helper()
	a, g, err := found.New(p)
	if err != api.OK {
		t.Fatalf("found.New(%v): %d", p, err)
	}
	m := &made{t, p, a, g, make([]uint64, (64*p.Scopes+p.Immortal+p.Heap)/8)}
	// Live and one within, where the immortal bytes begin, and how many they are.
	m.words[0], m.words[1], m.words[2] = 2+4, uint64(64*p.Scopes), uint64(p.Immortal)
	m.holds()
	return m
}

// holds asks that each word of the arena is what it must be.
func (m *made) holds() {
	m.t.Helper()
	if m.a.Len() != 8*len(m.words) {
		m.t.Fatalf("of %v there are %d bytes; want %d", m.p, m.a.Len(), 8*len(m.words))
	}
	for i, want := range m.words {
		if w, err := m.a.Word(8 * i); w != want || err != api.OK {
			m.t.Fatalf("of %v the word at %d is %d, %d; want %d", m.p, 8*i, w, err, want)
		}
	}
}

// puts makes a word what other calls would make of it.
func (m *made) puts(at int, x uint64) {
	m.t.Helper()
	if err := m.a.Put(at, x); err != api.OK {
		m.t.Fatalf("Put(%d, %d): %d", at, x, err)
	}
	m.words[at/8] = x
}

// is makes a scope's control word the one of these.
func (m *made) is(scope, state, count, parent, epoch int) {
	m.t.Helper()
	m.puts(64*scope, uint64(state+4*count+1024*(parent+1)+262144*epoch))
}

// makes is a scope more, and tells its number; what found does to the words is taken as it is.
func (m *made) makes(size int) int {
	m.t.Helper()
	told, err := found.Step(m.p, m.a, m.g, api.Run{Call: api.Call{Op: api.CaCreate, A: size}, Pc: api.PcMake})
	if err != api.OK || told.Answer.Code != api.OK {
		m.t.Fatalf("of %v create of %d is %v, %d", m.p, size, told.Answer, err)
	}
	m.looks()
	return told.Answer.N
}

// looks takes all words as they are.
func (m *made) looks() {
	for i := range m.words {
		m.words[i], _ = m.a.Word(8 * i)
	}
}

// lives is a scope more that one is within, of that epoch.
func (m *made) lives(size, epoch int) int {
	m.t.Helper()
	n := m.makes(size)
	m.is(n, 2, 1, 0, epoch)
	return n
}

// wordsOf is how many words an object has, counted byte by byte.
func wordsOf(slots, bytes int) int {
	n := 2 + slots
	for have := 0; have < bytes; have += 8 {
		n++
	}
	return n
}

// does is what a micro-step of a Run that may be tells and leaves, by what the chapter says, written out.
func (m *made) does(r api.Run) api.Run {
	block := m.words[8*r.Area:]
	r.Point = false
	switch r.Pc {
	case 5:
		r.Next, r.Pc = block[0]/262144, 2
	case 2:
		r.At, r.Pc = int(block[1]), 3
	case 3:
		r.Word, r.Pc = block[2], 4
	case 4:
		r.Done, r.Point, r.Answer = true, true, api.Answer{Said: r.Said}
		size, used := wordsOf(r.Call.A, r.Call.B), int(block[3])
		if used+8*size > int(r.Word) {
			r.Answer.Code = 17
			return r
		}
		at := r.At + used
		block[3] = uint64(used + 8*size)
		m.words[at/8] = uint64(size) + uint64(r.Call.A)*4294967296 + uint64(r.Call.C)*1099511627776 + 165*72057594037927936
		m.words[at/8+1] = uint64(r.Area) + r.Next*256
		r.Answer.N = at/8 + r.Area*16777216 + int(r.Next)*4294967296
	}
	return r
}

// steps makes a micro-step, and asks that the whole Run behind it, and each word, are what they must be, and that the Run handed in, its rows and the room behind them are as they were.
func (m *made) steps(r api.Run) api.Run {
	m.t.Helper()
	own := dressed(r)
	told, err := Step(m.p, m.a, own)
	if want := m.does(r); err != api.OK || !same(told, want) {
		m.t.Fatalf("of %v the Step of %v = %v, %d; want %v, 0", m.p, r, told, err, want)
	}
	if !same(own, r) || !strays(own) {
		m.t.Fatalf("of %v the Step of %v made of it %v", m.p, r, own)
	}
	m.holds()
	return told
}

// refuses asks that a step is none, and changes nothing.
func (m *made) refuses(r api.Run) {
	m.t.Helper()
	own := dressed(r)
	if told, err := Step(m.p, m.a, own); err != api.ErrArg || !same(told, api.Run{}) {
		m.t.Fatalf("of %v the Step of %v = %v, %d; want none, 1", m.p, r, told, err)
	}
	if !same(own, r) || !strays(own) {
		m.t.Fatalf("of %v the Step of %v made of it %v", m.p, r, own)
	}
	m.holds()
}

// begins is an allocation of a thread that is within such a scope.
func (m *made) begins(scope, slots, bytes, tag int) api.Run {
	m.t.Helper()
	r := begin.Of(m.p, make([]uint64, 4), within(scope), api.Call{Op: 7, R: 1, A: slots, B: bytes, C: tag})
	if r.Pc != 5 || r.Area != scope {
		m.t.Fatalf("of %v an allocation in %d of %d, %d, %d begins as %v", m.p, scope, slots, bytes, tag, r)
	}
	return r
}

// ends makes all micro-steps of a Run that begins: there are four, and the last one alone is the point.
func (m *made) ends(r api.Run) api.Run {
	m.t.Helper()
	for i, pc := range []int{2, 3, 4, 4} {
		r = m.steps(r)
		if r.Pc != pc || r.Done != (i == 3) || r.Point != (i == 3) {
			m.t.Fatalf("of %v behind %d steps it is %v", m.p, i+1, r)
		}
	}
	m.refuses(r)
	return r
}

// takes is a whole allocation that is told where it is; all its words but the head are 0.
func (m *made) takes(scope, slots, bytes, tag, handle int) {
	m.t.Helper()
	r := m.ends(m.begins(scope, slots, bytes, tag))
	if r.Answer.Code != api.OK || r.Answer.N != handle {
		m.t.Fatalf("of %v an allocation in %d of %d, %d, %d is told %v; want {0 %d}", m.p, scope, slots, bytes, tag, r.Answer, handle)
	}
	first := handle % 16777216
	for i := first + 2; i < first+wordsOf(slots, bytes); i++ {
		if m.words[i] != 0 {
			m.t.Fatalf("of %v the word at %d of what is claimed is %d", m.p, 8*i, m.words[i])
		}
	}
}

// full asks that an allocation is told ErrMemory, and that no word changes.
func (m *made) full(scope, slots, bytes, tag int) {
	m.t.Helper()
	were := slices.Clone(m.words)
	r := m.ends(m.begins(scope, slots, bytes, tag))
	if r.Answer.Code != api.ErrMemory || r.Answer.N != 0 {
		m.t.Fatalf("of %v an allocation in %d of %d, %d, %d is told %v; want {17 0}", m.p, scope, slots, bytes, tag, r.Answer)
	}
	if !slices.Equal(were, m.words) {
		m.t.Fatalf("of %v an allocation in %d that is refused changed a word", m.p, scope)
	}
}

// within are the entries of a thread that allocates in that scope.
func within(scope int) []api.Entry {
	if scope == 0 {
		return nil
	}
	return []api.Entry{{Scope: scope, Counted: true}}
}

// planned is a plan of so many scopes, with so many bytes.
func planned(scopes, immortal, heap int) api.Plan {
	return api.Plan{Scopes: scopes, Threads: 4, Immortal: immortal, Heap: heap}
}

// dense is a Run at that Pc whose other fields are all other than zero, but Done.
func dense(pc, area, slots, bytes, tag int) api.Run {
	return api.Run{
		Call: api.Call{Op: 7, R: 1, H: 2, V: 3, A: slots, B: bytes, C: tag},
		Pc:   pc, Area: area, Hand: 9, Val: 10, Chain: []api.Entry{{Scope: 1, Counted: true}, {Scope: 2}}, Word: 48, Next: 12, At: 128, Top: 14,
		List: []int{15, 16}, Op: 17, Said: []int{18, 19}, N: 20, Held: true, Point: true,
		Answer: api.Answer{Code: 21, N: 22, Said: []int{23}},
	}
}

// bleak is a Run at that Pc with zeros, as far as may be.
func bleak(pc, area, slots, bytes, tag int) api.Run {
	return api.Run{Call: api.Call{Op: 7, A: slots, B: bytes, C: tag}, Pc: pc, Area: area}
}

// far are numbers far from all bounds, and such as would be within if upper bits were lost.
func far() []int {
	l := []int{-1, -2, -7, -8, -64, -256, -65536}
	for d := range 9 {
		l = append(l, math.MaxInt-d, math.MinInt+d)
	}
	for _, bits := range []int{16, 31, 32, 48, 58, 61, 62} {
		l = append(l, 1<<bits, 1<<bits+1, 1<<bits+2, 1<<bits+8, -1<<bits, -1<<bits+1, -1<<bits+2, -1<<bits+8)
	}
	return l
}

// stray is what stands in the room behind a row that is handed in.
const stray = 7777

// dressed is the same Run, with rows of its own, and room behind each.
func dressed(r api.Run) api.Run {
	e := api.Entry{Scope: stray}
	r.Chain = append(slices.Clone(r.Chain), e, e)[:len(r.Chain)]
	for _, l := range []*[]int{&r.List, &r.Said, &r.Answer.Said} {
		*l = append(slices.Clone(*l), stray, stray)[:len(*l)]
	}
	return r
}

// strays tells whether the room behind the rows of a dressed Run is as it was.
func strays(r api.Run) bool {
	for _, e := range r.Chain[len(r.Chain) : len(r.Chain)+2] {
		if e != (api.Entry{Scope: stray}) {
			return false
		}
	}
	for _, l := range [][]int{r.List, r.Said, r.Answer.Said} {
		if !slices.Equal(l[len(l):len(l)+2], []int{stray, stray}) {
			return false
		}
	}
	return true
}

// bare is the same Run, with nil for each list that is empty.
func bare(r api.Run) api.Run {
	if len(r.Chain) == 0 {
		r.Chain = nil
	}
	for _, l := range []*[]int{&r.List, &r.Said, &r.Answer.Said} {
		if len(*l) == 0 {
			*l = nil
		}
	}
	return r
}

func same(a, b api.Run) bool { return reflect.DeepEqual(bare(a), bare(b)) }
