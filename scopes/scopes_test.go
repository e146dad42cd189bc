package scopes

import (
	"math"
	"math/rand"
	"slices"
	"testing"

	"penfold/api"
)

// The greatest epoch, and the most that may be within, or be asked for, written out.
const (
	greatestEpoch = 16777215
	mostWithin    = 7
	mostGround    = 8192
)

// plain is a forest told byte by byte: of each byte of the heap, whose it is (0: it is free), and of each scope, what it is.
type plain struct {
	p     api.Plan
	heap  []int
	whole []api.Ctl
}

func plainOf(p api.Plan) *plain {
	x := &plain{p: p, heap: make([]int, p.Heap), whole: make([]api.Ctl, p.Scopes)}
	for i := range x.whole {
		x.whole[i] = api.Ctl{State: 0, Count: 0, Parent: -1, Epoch: 0}
	}
	x.whole[0] = api.Ctl{State: 2, Count: 1, Parent: -1, Epoch: 0}
	return x
}

// heapAt is where the heap begins: behind a block of 64 bytes of each scope, and the immortal bytes.
func (x *plain) heapAt() int { return 64*x.p.Scopes + x.p.Immortal }

// runs are the runs of bytes of one owner, as long as may be.
func (x *plain) runs(owner int) []api.Extent {
	var l []api.Extent
	for i, of := range x.heap {
		if of != owner {
			continue
		}
		if i == 0 || x.heap[i-1] != owner {
			l = append(l, api.Extent{At: x.heapAt() + i})
		}
		l[len(l)-1].Size++
	}
	return l
}

func (x *plain) isScope(n int) bool { return n >= 0 && n < x.p.Scopes }

func (x *plain) ctl(n int) (api.Ctl, api.Errno) {
	if !x.isScope(n) {
		return api.Ctl{}, 11
	}
	return x.whole[n], 0
}

func (x *plain) extent(n int) (api.Extent, api.Errno) {
	if !x.isScope(n) {
		return api.Extent{}, 11
	}
	if n == 0 {
		return api.Extent{At: 64 * x.p.Scopes, Size: x.p.Immortal}, 0
	}
	if l := x.runs(n); len(l) > 0 {
		return l[0], 0
	}
	return api.Extent{}, 0
}

func (x *plain) create(size int) (int, api.Errno) {
	if size < 1 || size > mostGround {
		return 0, 1
	}
	n := slices.IndexFunc(x.whole, func(c api.Ctl) bool { return c.State == 0 })
	if n < 0 {
		return 0, 13
	}
	for size%8 != 0 {
		size++
	}
	for _, e := range x.runs(0) {
		if e.Size >= size {
			for i := range size {
				x.heap[e.At-x.heapAt()+i] = n
			}
			x.whole[n].State = 1
			return n, 0
		}
	}
	return 0, 14
}

// further is an epoch one more.
func further(epoch int) int {
	if epoch == greatestEpoch {
		return 0
	}
	return epoch + 1
}

func (x *plain) destroy(n int) api.Errno {
	if n == 0 || !x.isScope(n) || x.whole[n].State == 0 {
		return 11
	}
	if x.whole[n].State != 1 {
		return 12
	}
	for i, of := range x.heap {
		if of == n {
			x.heap[i] = 0
		}
	}
	x.whole[n].State, x.whole[n].Epoch = 0, further(x.whole[n].Epoch)
	return 0
}

func (x *plain) enter(n, from int) api.Errno {
	if n == 0 || !x.isScope(n) {
		return 11
	}
	c := &x.whole[n]
	switch {
	case from < 0 || from > 7:
		return 1
	case c.State == 0:
		return 11
	case c.State == 3:
		return 10
	case c.State == 1:
		c.State, c.Count, c.Parent = 2, 1, from
	case c.Parent != from:
		return 15
	case c.Count == mostWithin:
		return 16
	default:
		c.Count++
	}
	return 0
}

func (x *plain) leave(n int) (bool, api.Errno) {
	if n == 0 || !x.isScope(n) || x.whole[n].State != 2 {
		return false, 11
	}
	c := &x.whole[n]
	c.Count--
	if c.Count == 0 {
		c.State = 3
	}
	return c.State == 3, 0
}

func (x *plain) open(n int) api.Errno {
	if n == 0 || !x.isScope(n) || x.whole[n].State != 3 {
		return 11
	}
	x.whole[n] = api.Ctl{State: 1, Count: 0, Parent: -1, Epoch: further(x.whole[n].Epoch)}
	return 0
}

func (x *plain) hold(n int) api.Errno {
	if n == 0 || !x.isScope(n) || x.whole[n].State != 3 {
		return 11
	}
	x.whole[n].State, x.whole[n].Count = 2, 1
	return 0
}

// both is a Scopes and a plain one: each call is made of both, and behind it all of both is the same.
type both struct {
	t *testing.T
	s *Scopes
	x *plain
}

// begun is both of a plan that may be, just made.
func begun(t *testing.T, p api.Plan) *both {
	t.Helper()
	s, err := New(p)
	if s == nil || err != api.OK {
		t.Fatalf("New(%v) = %v, %d", p, s, err)
	}
	b := &both{t: t, s: s, x: plainOf(p)}
	b.same()
	return b
}

// planOf is a plan of so many scopes, with some bytes for the immortal one.
func planOf(scopes, heap int) api.Plan {
	return api.Plan{Scopes: scopes, Threads: 1, Immortal: 16, Heap: heap}
}

// same holds each scope, those just outside, and what is free, against the plain one, and P11.3 against all of it.
func (b *both) same() {
	b.t.Helper()
	for n := -1; n <= b.x.p.Scopes; n++ {
		b.sameScope(n)
	}
	if l, want := b.s.Free(), b.x.runs(0); !slices.Equal(l, want) {
		b.t.Fatalf("Free() = %v; want %v", l, want)
	}
	b.disjoint()
}

// sameScope holds one scope, or what is none, against the plain one.
func (b *both) sameScope(n int) {
	b.t.Helper()
	c, err := b.s.Ctl(n)
	if want, wantErr := b.x.ctl(n); c != want || err != wantErr {
		b.t.Fatalf("Ctl(%d) = %v, %d; want %v, %d", n, c, err, want, wantErr)
	}
	e, err := b.s.Extent(n)
	if want, wantErr := b.x.extent(n); e != want || err != wantErr {
		b.t.Fatalf("Extent(%d) = %v, %d; want %v, %d", n, e, err, want, wantErr)
	}
}

// disjoint asks that each byte of the heap, and of the immortal ones, is just of one extent, or free, and no other byte is.
func (b *both) disjoint() {
	b.t.Helper()
	p := b.x.p
	l := b.s.Free()
	for n := range p.Scopes {
		e, _ := b.s.Extent(n)
		l = append(l, e)
	}
	from, end := 64*p.Scopes, 64*p.Scopes+p.Immortal+p.Heap
	seen := make([]int, end)
	for _, e := range l {
		for at := e.At; at < e.At+e.Size; at++ {
			if at < from || at >= end || seen[at] > 0 {
				b.t.Fatalf("the byte %d of %v is another one's, too, or nobody's", at, l)
			}
			seen[at]++
		}
	}
	if i := slices.Index(seen[from:], 0); i >= 0 {
		b.t.Fatalf("the byte %d is in none of %v", from+i, l)
	}
}

// What each call must tell, here and of the plain one, and that all is the same behind it.

func (b *both) create(size, n int, err api.Errno) {
	b.t.Helper()
	wantN, wantErr := b.x.create(size)
	if wantN != n || wantErr != err {
		b.t.Fatalf("the plain Create(%d) = %d, %d; want %d, %d", size, wantN, wantErr, n, err)
	}
	if gotN, gotErr := b.s.Create(size); gotN != n || gotErr != err {
		b.t.Fatalf("Create(%d) = %d, %d; want %d, %d", size, gotN, gotErr, n, err)
	}
	b.same()
}

func (b *both) told(call string, n int, got, plain, want api.Errno) {
	b.t.Helper()
	if got != want || plain != want {
		b.t.Fatalf("%s(%d) = %d, the plain one %d; want %d", call, n, got, plain, want)
	}
	b.same()
}

func (b *both) destroy(n int, err api.Errno) {
	b.t.Helper()
	b.told("Destroy", n, b.s.Destroy(n), b.x.destroy(n), err)
}

func (b *both) enter(n, from int, err api.Errno) {
	b.t.Helper()
	b.told("Enter", n, b.s.Enter(n, from), b.x.enter(n, from), err)
}

func (b *both) open(n int, err api.Errno) {
	b.t.Helper()
	b.told("Open", n, b.s.Open(n), b.x.open(n), err)
}

func (b *both) hold(n int, err api.Errno) {
	b.t.Helper()
	b.told("Hold", n, b.s.Hold(n), b.x.hold(n), err)
}

func (b *both) leave(n int, drain bool, err api.Errno) {
	b.t.Helper()
	gotDrain, got := b.s.Leave(n)
	wantDrain, want := b.x.leave(n)
	if gotDrain != drain || wantDrain != drain {
		b.t.Fatalf("Leave(%d) = %v, the plain one %v; want %v", n, gotDrain, wantDrain, drain)
	}
	b.told("Leave", n, got, want, err)
}

// ctl must be this, written out.
func (b *both) ctl(n int, want api.Ctl) {
	b.t.Helper()
	if c, err := b.s.Ctl(n); c != want || err != api.OK {
		b.t.Fatalf("Ctl(%d) = %v, %d; want %v", n, c, err, want)
	}
}

// extent must be this, written out.
func (b *both) extent(n, at, size int) {
	b.t.Helper()
	if e, err := b.s.Extent(n); e != (api.Extent{At: at, Size: size}) || err != api.OK {
		b.t.Fatalf("Extent(%d) = %v, %d; want {%d %d}", n, e, err, at, size)
	}
}

// free must be these, written out.
func (b *both) free(want ...api.Extent) {
	b.t.Helper()
	if l := b.s.Free(); !slices.Equal(l, want) {
		b.t.Fatalf("Free() = %v; want %v", l, want)
	}
}

// far are numbers that are no scope, no size, and no field of a plan: about the greatest and the least one, and such as would be one if upper bits were lost.
func far() []int {
	l := []int{-1, -2, -8, -16, -8192, 8193, 8200, 16384, 65536}
	for d := range 17 {
		l = append(l, math.MaxInt-d, math.MinInt+d)
	}
	for _, bits := range []int{16, 31, 32, 48, 62} {
		l = append(l, 1<<bits, 1<<bits+1, 1<<bits+2, 1<<bits+8, -1<<bits, -1<<bits+1, -1<<bits+8)
	}
	return l
}

// P11.2: the chapter's example.
func TestExample(t *testing.T) {
	b := begun(t, planOf(2, 64))
	b.create(10, 1, api.OK)
	b.create(8, 0, api.ErrMany)
	b.extent(1, 144, 16)
	b.free(api.Extent{At: 160, Size: 48})
}

// P11.1: a new one of each number of scopes and threads, at both ends of its bytes: the immortal scope, and the others, that are Free.
func TestNew(t *testing.T) {
	for scopes := 1; scopes <= 8; scopes++ {
		for threads := 1; threads <= 4; threads++ {
			for _, immortal := range []int{0, 8, 16, 2040, 2048} {
				for _, heap := range []int{0, 8, 64, 8184, 8192} {
					b := begun(t, api.Plan{Scopes: scopes, Threads: threads, Immortal: immortal, Heap: heap})
					b.ctl(0, api.Ctl{State: api.Live, Count: 1, Parent: -1})
					b.extent(0, 64*scopes, immortal)
					for n := 1; n < scopes; n++ {
						b.ctl(n, api.Ctl{State: api.Free, Parent: -1})
						b.extent(n, 0, 0)
					}
					if heap == 0 {
						b.free()
					} else {
						b.free(api.Extent{At: 64*scopes + immortal, Size: heap})
					}
				}
			}
		}
	}
}

// P11.1: a plan with a number that may not be is ErrArg, and nothing.
func TestNewWrong(t *testing.T) {
	scopes := append(far(), 0, 9, 10, 16, 64)
	threads := append(far(), 0, 5, 6, 8, 9)
	immortals := append(far(), 1, 4, 7, 9, 12, 2041, 2047, 2049, 2056, 4096, 8192)
	heaps := append(far(), 1, 4, 7, 9, 12, 8185, 8191)
	wrong := []api.Plan{{}, {Scopes: 1}, {Threads: 1}, {Scopes: 9, Threads: 5, Immortal: 2056, Heap: 8200}, {Scopes: -1, Threads: -1, Immortal: -8, Heap: -8}}
	for _, p := range []api.Plan{{Scopes: 1, Threads: 1}, {Scopes: 3, Threads: 2, Immortal: 16, Heap: 64}, {Scopes: 8, Threads: 4, Immortal: 2048, Heap: 8192}} {
		for _, n := range scopes {
			wrong = append(wrong, api.Plan{Scopes: n, Threads: p.Threads, Immortal: p.Immortal, Heap: p.Heap})
		}
		for _, n := range threads {
			wrong = append(wrong, api.Plan{Scopes: p.Scopes, Threads: n, Immortal: p.Immortal, Heap: p.Heap})
		}
		for _, n := range immortals {
			wrong = append(wrong, api.Plan{Scopes: p.Scopes, Threads: p.Threads, Immortal: n, Heap: p.Heap})
		}
		for _, n := range heaps {
			wrong = append(wrong, api.Plan{Scopes: p.Scopes, Threads: p.Threads, Immortal: p.Immortal, Heap: n})
		}
	}
	for _, p := range wrong {
		if s, err := New(p); s != nil || err != api.ErrArg {
			t.Errorf("New(%v) = %v, %d; want none, %d", p, s, err, api.ErrArg)
		}
	}
}

// P11.2: a scope has so many bytes as were asked for, rounded up, from the first one that is free on.
func TestCreateSizes(t *testing.T) {
	for _, x := range []struct{ size, up int }{
		{1, 8}, {2, 8}, {7, 8}, {8, 8}, {9, 16}, {15, 16}, {16, 16}, {17, 24}, {8184, 8184}, {8185, 8192}, {8191, 8192}, {8192, 8192},
	} {
		b := begun(t, planOf(2, 8192))
		b.create(x.size, 1, api.OK)
		b.ctl(1, api.Ctl{State: api.Idle, Parent: -1})
		b.extent(1, 144, x.up)
		if x.up == 8192 {
			b.free()
		} else {
			b.free(api.Extent{At: 144 + x.up, Size: 8192 - x.up})
		}
		b.destroy(1, api.OK)
		b.free(api.Extent{At: 144, Size: 8192})
	}
}

// P11.2: a size that may not be is ErrArg, whether or not there is a scope, and ground, and changes nothing.
func TestCreateWrong(t *testing.T) {
	for _, p := range []api.Plan{planOf(1, 0), planOf(1, 8192), planOf(2, 0), planOf(8, 8192)} {
		b := begun(t, p)
		for _, size := range append(far(), 0, 8193, 8194) {
			b.create(size, 0, api.ErrArg)
		}
	}
}

// P11.2: no scope is Free, no ground is great enough, and both: then the scope is told; nothing changes.
func TestCreateRefused(t *testing.T) {
	b := begun(t, planOf(3, 64))
	for _, size := range []int{65, 72, 8192} {
		b.create(size, 0, api.ErrGround)
	}
	b.create(24, 1, api.OK)
	for _, size := range []int{41, 48, 64, 8192} {
		b.create(size, 0, api.ErrGround)
	}
	b.create(32, 2, api.OK)
	for _, size := range []int{1, 8, 9, 64, 8192} {
		b.create(size, 0, api.ErrMany)
	}
	b.create(8193, 0, api.ErrArg)
	b.destroy(1, api.OK)
	b.free(api.Extent{At: 208, Size: 24}, api.Extent{At: 264, Size: 8})
	b.create(25, 0, api.ErrGround)
	b.create(32, 0, api.ErrGround)
	b.create(17, 1, api.OK)
	b.extent(1, 208, 24)
	b.create(1, 0, api.ErrMany)
}

// P11.2: with the last scope just the last bytes go: then neither is there.
func TestCreateLast(t *testing.T) {
	b := begun(t, planOf(2, 8))
	b.create(9, 0, api.ErrGround)
	b.create(8, 1, api.OK)
	b.free()
	b.create(8, 0, api.ErrMany)
	b.create(0, 0, api.ErrArg)
	b.destroy(1, api.OK)
	b.create(1, 1, api.OK)
	b = begun(t, planOf(3, 8))
	b.create(1, 1, api.OK)
	b.create(1, 0, api.ErrGround)
}

// P11.2: of several that are Free the least one is made, with the first ground that is great enough, whoever had that.
func TestCreateLeast(t *testing.T) {
	b := begun(t, planOf(6, 120))
	for n := 1; n <= 5; n++ {
		b.create(8*n, n, api.OK)
	}
	b.free()
	b.destroy(4, api.OK)
	b.destroy(2, api.OK)
	b.destroy(5, api.OK)
	b.free(api.Extent{At: 408, Size: 16}, api.Extent{At: 448, Size: 72})
	b.create(24, 2, api.OK)
	b.extent(2, 448, 24)
	b.create(10, 4, api.OK)
	b.extent(4, 408, 16)
	b.create(48, 5, api.OK)
	b.extent(5, 472, 48)
	b.free()
	for _, n := range []int{2, 4, 5} {
		b.ctl(n, api.Ctl{State: api.Idle, Parent: -1, Epoch: 1})
	}
}

// P11.2: one scope takes the whole heap, and gives it back.
func TestWholeHeap(t *testing.T) {
	for _, heap := range []int{8, 64, 8184, 8192} {
		b := begun(t, planOf(8, heap))
		b.create(heap, 1, api.OK)
		b.free()
		b.extent(1, 528, heap)
		b.create(1, 0, api.ErrGround)
		b.destroy(1, api.OK)
		b.free(api.Extent{At: 528, Size: heap})
		b.create(heap-7, 1, api.OK)
		b.free()
	}
}

// P11.1, P11.2: a heap of 0 bytes has no scope but the immortal one.
func TestEmptyHeap(t *testing.T) {
	b := begun(t, planOf(4, 0))
	b.free()
	for _, size := range []int{1, 8, 8192} {
		b.create(size, 0, api.ErrGround)
	}
	b.destroy(1, api.ErrScope)
	b.enter(1, 0, api.ErrScope)
	b = begun(t, api.Plan{Scopes: 1, Threads: 1})
	b.extent(0, 64, 0)
	b.create(1, 0, api.ErrMany)
	b.create(0, 0, api.ErrArg)
}

// nobody are numbers that are no scope of so many, or the immortal one.
func nobody(scopes int) []int {
	return append(far(), 0, scopes, scopes+1, 2*scopes+8, 64, 256, 256+1, 65536+1)
}

// P11.1, P11.2: what is no scope, or is the immortal one, is ErrScope of each call that changes one, whatever else is wrong.
func TestNoScope(t *testing.T) {
	for scopes := 1; scopes <= 8; scopes++ {
		b := begun(t, planOf(scopes, 8*scopes))
		for n := 1; n < scopes; n++ {
			b.create(8, n, api.OK)
		}
		for _, n := range nobody(scopes) {
			b.destroy(n, api.ErrScope)
			for _, from := range []int{0, 1, 7, 8, -1, n, math.MaxInt, math.MinInt} {
				b.enter(n, from, api.ErrScope)
			}
			b.leave(n, false, api.ErrScope)
			b.open(n, api.ErrScope)
			b.hold(n, api.ErrScope)
			if n != 0 {
				b.sameScope(n)
			}
		}
		b.ctl(0, api.Ctl{State: api.Live, Count: 1, Parent: -1})
		if scopes > 1 {
			b.enter(scopes-1, 0, api.OK)
		}
	}
}

// P11.1: Ctl and Extent of a scope at both ends, and of what is just none.
func TestScopesEnds(t *testing.T) {
	b := begun(t, planOf(3, 64))
	b.create(8, 1, api.OK)
	b.create(9, 2, api.OK)
	b.extent(2, 216, 16)
	b.ctl(2, api.Ctl{State: api.Idle, Parent: -1})
	for _, n := range append(far(), 3, 4, 7, 8) {
		if c, err := b.s.Ctl(n); c != (api.Ctl{}) || err != api.ErrScope {
			t.Errorf("Ctl(%d) = %v, %d; want none, %d", n, c, err, api.ErrScope)
		}
		if e, err := b.s.Extent(n); e != (api.Extent{}) || err != api.ErrScope {
			t.Errorf("Extent(%d) = %v, %d; want none, %d", n, e, err, api.ErrScope)
		}
	}
}

// in is both with the scope 1 in one of its states, and the scope 2 beside it.
func in(t *testing.T, state string) *both {
	b := begun(t, planOf(4, 64))
	if state == "Free" {
		return b
	}
	b.create(16, 1, api.OK)
	b.create(8, 2, api.OK)
	if state == "Idle" {
		return b
	}
	b.enter(1, 2, api.OK)
	switch state {
	case "Drain":
		b.leave(1, true, api.OK)
	case "Two":
		b.enter(1, 2, api.OK)
	case "Seven":
		for range 6 {
			b.enter(1, 2, api.OK)
		}
	}
	return b
}

// P11.2: each call, of a scope in each of its states, with what is told, and what it is behind it.
func TestStates(t *testing.T) {
	free, idle := api.Ctl{Parent: -1}, api.Ctl{State: api.Idle, Parent: -1}
	one, two := api.Ctl{State: api.Live, Count: 1, Parent: 2}, api.Ctl{State: api.Live, Count: 2, Parent: 2}
	six, seven := api.Ctl{State: api.Live, Count: 6, Parent: 2}, api.Ctl{State: api.Live, Count: 7, Parent: 2}
	drain, opened := api.Ctl{State: api.Drain, Parent: 2}, api.Ctl{State: api.Idle, Parent: -1, Epoch: 1}
	unmade := api.Ctl{Parent: -1, Epoch: 1}
	destroy := func(b *both, err api.Errno) { b.destroy(1, err) }
	open := func(b *both, err api.Errno) { b.open(1, err) }
	hold := func(b *both, err api.Errno) { b.hold(1, err) }
	goes := func(b *both, err api.Errno) { b.leave(1, false, err) }
	last := func(b *both, err api.Errno) { b.leave(1, true, err) }
	from := func(n int) func(*both, api.Errno) { return func(b *both, err api.Errno) { b.enter(1, n, err) } }
	for _, x := range []struct {
		state string
		call  func(*both, api.Errno)
		err   api.Errno
		want  api.Ctl
	}{
		{"Free", destroy, api.ErrScope, free}, {"Idle", destroy, api.OK, unmade}, {"One", destroy, api.ErrInUse, one}, {"Seven", destroy, api.ErrInUse, seven}, {"Drain", destroy, api.ErrInUse, drain},
		{"Free", open, api.ErrScope, free}, {"Idle", open, api.ErrScope, idle}, {"One", open, api.ErrScope, one}, {"Seven", open, api.ErrScope, seven}, {"Drain", open, api.OK, opened},
		{"Free", hold, api.ErrScope, free}, {"Idle", hold, api.ErrScope, idle}, {"One", hold, api.ErrScope, one}, {"Seven", hold, api.ErrScope, seven}, {"Drain", hold, api.OK, one},
		{"Free", goes, api.ErrScope, free}, {"Idle", goes, api.ErrScope, idle}, {"Two", goes, api.OK, one}, {"Seven", goes, api.OK, six}, {"Drain", goes, api.ErrScope, drain}, {"One", last, api.OK, drain},
		{"Free", from(2), api.ErrScope, free}, {"Idle", from(2), api.OK, one}, {"One", from(2), api.OK, two}, {"Seven", from(2), api.ErrCount, seven}, {"Drain", from(2), api.ErrWait, drain},
		{"Free", from(3), api.ErrScope, free}, {"One", from(3), api.ErrCycle, one}, {"Two", from(0), api.ErrCycle, two}, {"Seven", from(3), api.ErrCycle, seven}, {"Drain", from(3), api.ErrWait, drain},
		{"Idle", from(0), api.OK, api.Ctl{State: api.Live, Count: 1}}, {"Idle", from(1), api.OK, api.Ctl{State: api.Live, Count: 1, Parent: 1}}, {"Idle", from(7), api.OK, api.Ctl{State: api.Live, Count: 1, Parent: 7}},
		{"Free", from(8), api.ErrArg, free}, {"Idle", from(8), api.ErrArg, idle}, {"One", from(8), api.ErrArg, one}, {"Seven", from(8), api.ErrArg, seven}, {"Drain", from(8), api.ErrArg, drain},
		{"Free", from(-1), api.ErrArg, free}, {"Idle", from(-1), api.ErrArg, idle}, {"One", from(-1), api.ErrArg, one}, {"Seven", from(-1), api.ErrArg, seven}, {"Drain", from(-1), api.ErrArg, drain},
	} {
		b := in(t, x.state)
		x.call(b, x.err)
		b.ctl(1, x.want)
		if x.state != "Free" && x.want.State != api.Free {
			b.extent(1, 272, 16)
		}
	}
}

// P11.2: a from that may not be is ErrArg of a scope in whichever state.
func TestEnterWrong(t *testing.T) {
	for _, state := range []string{"Free", "Idle", "One", "Two", "Seven", "Drain"} {
		b := in(t, state)
		for _, from := range append(far(), 8, 9, 64, 256) {
			b.enter(1, from, api.ErrArg)
		}
	}
}

// P11.2: who comes from another parent than before is refused as long as somebody is within; behind Open the parent is a new one, behind Hold it stays.
func TestAnotherParent(t *testing.T) {
	b := begun(t, planOf(4, 64))
	for n := 1; n <= 3; n++ {
		b.create(8, n, api.OK)
	}
	b.enter(3, 1, api.OK)
	b.enter(3, 2, api.ErrCycle)
	b.enter(3, 0, api.ErrCycle)
	b.enter(3, 3, api.ErrCycle)
	b.enter(3, 1, api.OK)
	b.leave(3, false, api.OK)
	b.enter(3, 2, api.ErrCycle)
	b.leave(3, true, api.OK)
	b.enter(3, 2, api.ErrWait)
	b.hold(3, api.OK)
	b.enter(3, 2, api.ErrCycle)
	b.enter(3, 1, api.OK)
	b.leave(3, false, api.OK)
	b.leave(3, true, api.OK)
	b.open(3, api.OK)
	b.enter(3, 2, api.OK)
	b.enter(3, 1, api.ErrCycle)
	b.ctl(3, api.Ctl{State: api.Live, Count: 1, Parent: 2, Epoch: 1})
}

// P11.2: a whole life: made, entered by all that may, left by all, opened, entered again, held, left, opened, unmade, and made again with its next epoch.
func TestLife(t *testing.T) {
	b := begun(t, planOf(3, 64))
	b.create(8, 1, api.OK)
	b.create(20, 2, api.OK)
	b.extent(2, 216, 24)
	for range 7 {
		b.enter(2, 1, api.OK)
	}
	b.enter(2, 1, api.ErrCount)
	b.ctl(2, api.Ctl{State: api.Live, Count: 7, Parent: 1})
	for i := range 7 {
		b.leave(2, i == 6, api.OK)
	}
	b.ctl(2, api.Ctl{State: api.Drain, Parent: 1})
	b.leave(2, false, api.ErrScope)
	b.destroy(2, api.ErrInUse)
	b.open(2, api.OK)
	b.ctl(2, api.Ctl{State: api.Idle, Parent: -1, Epoch: 1})
	b.open(2, api.ErrScope)
	b.enter(2, 0, api.OK)
	b.leave(2, true, api.OK)
	b.hold(2, api.OK)
	b.ctl(2, api.Ctl{State: api.Live, Count: 1, Parent: 0, Epoch: 1})
	b.hold(2, api.ErrScope)
	b.leave(2, true, api.OK)
	b.open(2, api.OK)
	b.extent(2, 216, 24)
	b.destroy(2, api.OK)
	b.ctl(2, api.Ctl{State: api.Free, Parent: -1, Epoch: 3})
	b.extent(2, 0, 0)
	b.destroy(2, api.ErrScope)
	b.create(56, 2, api.OK)
	b.ctl(2, api.Ctl{State: api.Idle, Parent: -1, Epoch: 3})
	b.extent(2, 216, 56)
	b.free()
}

// older makes the epoch of a scope this, here and of the plain one.
func (b *both) older(n, epoch int) {
	b.s.all[n].ctl.Epoch, b.x.whole[n].Epoch = epoch, epoch
	b.same()
}

// P11.2: behind the greatest epoch comes 0, whether the scope is unmade, or opened.
func TestEpochRound(t *testing.T) {
	for _, x := range []struct{ epoch, next int }{{0, 1}, {1, 2}, {255, 256}, {65535, 65536}, {greatestEpoch - 1, greatestEpoch}, {greatestEpoch, 0}} {
		b := begun(t, planOf(3, 64))
		b.create(8, 1, api.OK)
		b.create(8, 2, api.OK)
		b.older(1, x.epoch)
		b.destroy(1, api.OK)
		b.ctl(1, api.Ctl{State: api.Free, Parent: -1, Epoch: x.next})
		b.create(16, 1, api.OK)
		b.ctl(1, api.Ctl{State: api.Idle, Parent: -1, Epoch: x.next})
		b.older(2, x.epoch)
		b.enter(2, 1, api.OK)
		b.leave(2, true, api.OK)
		b.hold(2, api.OK)
		b.ctl(2, api.Ctl{State: api.Live, Count: 1, Parent: 1, Epoch: x.epoch})
		b.leave(2, true, api.OK)
		b.open(2, api.OK)
		b.ctl(2, api.Ctl{State: api.Idle, Parent: -1, Epoch: x.next})
	}
}

// P11.2: and so by calls alone: made and unmade as often as there are epochs, a scope has its first one again.
func TestEpochRoundByCalls(t *testing.T) {
	b := begun(t, planOf(2, 64))
	for range greatestEpoch {
		if n, err := b.s.Create(8); n != 1 || err != api.OK {
			t.Fatalf("Create(8) = %d, %d", n, err)
		}
		if err := b.s.Destroy(1); err != api.OK {
			t.Fatalf("Destroy(1) = %d", err)
		}
	}
	b.ctl(1, api.Ctl{State: api.Free, Parent: -1, Epoch: greatestEpoch})
	b.x.whole[1].Epoch = greatestEpoch
	b.create(8, 1, api.OK)
	b.destroy(1, api.OK)
	b.ctl(1, api.Ctl{State: api.Free, Parent: -1})
}

// orders are all orders of these numbers.
func orders(l []int) [][]int {
	if len(l) == 0 {
		return [][]int{nil}
	}
	var all [][]int
	for i, first := range l {
		for _, rest := range orders(slices.Delete(slices.Clone(l), i, i+1)) {
			all = append(all, append([]int{first}, rest...))
		}
	}
	return all
}

// P11.3: unmade in whichever order, all scopes leave the heap whole.
func TestWholeAgain(t *testing.T) {
	for _, order := range orders([]int{1, 2, 3, 4, 5}) {
		b := begun(t, planOf(6, 160))
		for n := 1; n <= 5; n++ {
			b.create(9*n, n, api.OK)
		}
		b.free()
		for _, n := range order {
			b.destroy(n, api.OK)
		}
		b.free(api.Extent{At: 400, Size: 160})
		b.create(160, 1, api.OK)
	}
}

// call makes one of so many calls of a forest of three scopes, here and of the plain one.
func (b *both) call(which int) {
	b.t.Helper()
	n := 1 + which%2
	switch which / 2 {
	case 0:
		b.anyCreate(8 * n)
	case 1:
		b.anyOf("Destroy", n, b.s.Destroy(n), b.x.destroy(n))
	case 2:
		b.anyOf("Enter", n, b.s.Enter(n, 0), b.x.enter(n, 0))
	case 3:
		b.anyOf("Enter", n, b.s.Enter(n, 3-n), b.x.enter(n, 3-n))
	case 4:
		b.anyLeave(n)
	case 5:
		b.anyOf("Open", n, b.s.Open(n), b.x.open(n))
	case 6:
		b.anyOf("Hold", n, b.s.Hold(n), b.x.hold(n))
	}
}

// calls is how many calls call makes.
const calls = 14

func (b *both) anyOf(call string, n int, got, want api.Errno) {
	b.t.Helper()
	if got != want {
		b.t.Fatalf("%s(%d) = %d; want %d", call, n, got, want)
	}
}

func (b *both) anyCreate(size int) {
	b.t.Helper()
	n, err := b.s.Create(size)
	if wantN, wantErr := b.x.create(size); n != wantN || err != wantErr {
		b.t.Fatalf("Create(%d) = %d, %d; want %d, %d", size, n, err, wantN, wantErr)
	}
}

func (b *both) anyLeave(n int) {
	b.t.Helper()
	drain, err := b.s.Leave(n)
	if wantDrain, wantErr := b.x.leave(n); drain != wantDrain || err != wantErr {
		b.t.Fatalf("Leave(%d) = %v, %d; want %v, %d", n, drain, err, wantDrain, wantErr)
	}
}

// P11.1, P11.2, P11.3: every row of a few calls, from each two states that two scopes may be in, over a heap that is not great enough for all that is asked for.
func TestEveryRow(t *testing.T) {
	const most = 3
	rows := 1
	for range most {
		rows *= calls
	}
	states := []string{"Free", "Idle", "One", "Two", "Drain"}
	for _, first := range states {
		for _, second := range states {
			for row := range rows {
				b := begun(t, planOf(3, 24))
				b.create(8, 1, api.OK)
				b.create(8, 2, api.OK)
				b.put(1, first)
				b.put(2, second)
				for rest, i := row, 0; i < most; rest, i = rest/calls, i+1 {
					b.call(rest % calls)
					b.same()
				}
			}
		}
	}
}

// put makes of an Idle scope what the state says, entered from the immortal one.
func (b *both) put(n int, state string) {
	b.t.Helper()
	switch state {
	case "Free":
		b.destroy(n, api.OK)
	case "One":
		b.enter(n, 0, api.OK)
	case "Two":
		b.enter(n, 0, api.OK)
		b.enter(n, 0, api.OK)
	case "Drain":
		b.enter(n, 0, api.OK)
		b.leave(n, true, api.OK)
	}
}

// P11.1, P11.2, P11.3: long rows of calls, right and wrong ones, over each number of scopes, with all of it asked behind each.
func TestRows(t *testing.T) {
	for seed := range 160 {
		r := rand.New(rand.NewSource(int64(seed)))
		scopes := 1 + seed%8
		b := begun(t, api.Plan{Scopes: scopes, Threads: 1 + r.Intn(4), Immortal: 8 * r.Intn(4), Heap: 8 * r.Intn(24)})
		for range 400 {
			n := r.Intn(scopes+2) - 1
			switch r.Intn(8) {
			case 0:
				b.anyCreate(r.Intn(60))
			case 1:
				b.anyOf("Destroy", n, b.s.Destroy(n), b.x.destroy(n))
			case 2, 3:
				from := r.Intn(2)
				if r.Intn(9) == 0 {
					from = r.Intn(12) - 2
				}
				b.anyOf("Enter", n, b.s.Enter(n, from), b.x.enter(n, from))
			case 4, 5:
				b.anyLeave(n)
			case 6:
				b.anyOf("Open", n, b.s.Open(n), b.x.open(n))
			case 7:
				b.anyOf("Hold", n, b.s.Hold(n), b.x.hold(n))
			}
			b.same()
		}
		b.unmakeAll()
	}
}

// unmakeAll empties, opens and unmakes what there is, by which the heap is whole.
func (b *both) unmakeAll() {
	b.t.Helper()
	for n := 1; n < b.x.p.Scopes; n++ {
		for b.x.whole[n].State == 2 {
			b.anyLeave(n)
		}
		if b.x.whole[n].State == 3 {
			b.open(n, api.OK)
		}
		if b.x.whole[n].State == 1 {
			b.destroy(n, api.OK)
		}
	}
	if b.x.p.Heap == 0 {
		b.free()
	} else {
		b.free(api.Extent{At: b.x.heapAt(), Size: b.x.p.Heap})
	}
}

// R7: what Free told is the caller's own: what becomes of it changes nothing, and what becomes of the ground does not change it.
func TestFreeIsOwn(t *testing.T) {
	b := begun(t, planOf(4, 64))
	for n := 1; n <= 3; n++ {
		b.create(16, n, api.OK)
	}
	b.destroy(2, api.OK)
	l := b.s.Free()
	for i := range l {
		l[i] = api.Extent{At: 8 * i, Size: 8192}
	}
	l = append(l[:1], api.Extent{At: 1, Size: 1})
	b.same()
	b.free(api.Extent{At: 288, Size: 16}, api.Extent{At: 320, Size: 16})
	kept := b.s.Free()
	b.create(8, 2, api.OK)
	b.destroy(3, api.OK)
	if want := []api.Extent{{At: 288, Size: 16}, {At: 320, Size: 16}}; !slices.Equal(kept, want) {
		t.Errorf("what Free told became %v; want %v", kept, want)
	}
	if l[0] != (api.Extent{At: 0, Size: 8192}) {
		t.Errorf("what the caller wrote became %v", l)
	}
}

// R6: two of one plan have nothing of each other.
func TestTwoAreApart(t *testing.T) {
	a, b := begun(t, planOf(3, 64)), begun(t, planOf(3, 64))
	a.create(64, 1, api.OK)
	b.same()
	b.create(8, 1, api.OK)
	b.enter(1, 0, api.OK)
	a.same()
	a.destroy(1, api.OK)
	b.same()
	b.free(api.Extent{At: 216, Size: 56})
}

// R1: one that no New made has no scopes, and no ground, and panics of nothing.
func TestNobodyMadeIt(t *testing.T) {
	s := new(Scopes)
	for _, n := range []int{-1, 0, 1, 7} {
		_, ctlErr := s.Ctl(n)
		_, extentErr := s.Extent(n)
		drain, leaveErr := s.Leave(n)
		for _, err := range []api.Errno{ctlErr, extentErr, leaveErr, s.Destroy(n), s.Enter(n, 0), s.Open(n), s.Hold(n)} {
			if err != api.ErrScope || drain {
				t.Errorf("of %d: %d, %v", n, err, drain)
			}
		}
	}
	if n, err := s.Create(8); n != 0 || err != api.ErrMany {
		t.Errorf("Create(8) = %d, %d", n, err)
	}
	if l := s.Free(); len(l) != 0 {
		t.Errorf("Free() = %v", l)
	}
}
