package model

import (
	"math"
	"slices"
	"testing"

	"penfold/api"
)

// plain is a model told in another way, from the chapters' words alone: no layer below is asked, and what is above what is told by the scopes' parents.
type plain struct {
	p    api.Plan
	fins [][]api.FOp
	// Of each word of the heap whose it is; 0: it is free.
	heap    []int
	scopes  []plainScope
	threads []plainThread
	// All that there ever were.
	things []*plainThing
}

type plainScope struct {
	state, count, parent, epoch int
	portal                      uint64
}

type plainThread struct {
	regs    [4]uint64
	entries []api.Entry
}

type plainThing struct {
	handle     uint64
	scope, at  int
	bytes, tag int
	done, gone bool
	slots      []uint64
}

func plainOf(p api.Plan, fins [][]api.FOp) *plain {
	x := &plain{p: p, heap: make([]int, p.Heap/8), scopes: make([]plainScope, p.Scopes), threads: make([]plainThread, p.Threads)}
	for i := range x.scopes {
		x.scopes[i].parent = -1
	}
	x.scopes[0].state, x.scopes[0].count = 2, 1
	for _, ops := range fins {
		x.fins = append(x.fins, slices.Clone(ops))
	}
	return x
}

// handle is written out: the place in words, the scope from the bit 24 on, the epoch from the bit 32 on.
func handle(scope, epoch, at int) uint64 {
	return uint64(at/8) + uint64(scope)*16777216 + uint64(epoch)*4294967296
}

func (x *plain) isScope(n int) bool { return n >= 0 && n < x.p.Scopes }

func (x *plain) ctl(n int) (api.Ctl, api.Errno) {
	if !x.isScope(n) {
		return api.Ctl{}, 11
	}
	s := x.scopes[n]
	return api.Ctl{State: s.state, Count: s.count, Parent: s.parent, Epoch: s.epoch}, 0
}

// extent is where a scope's objects stand, and how many bytes that has.
func (x *plain) extent(n int) (int, int) {
	if n == 0 {
		return 64 * x.p.Scopes, x.p.Immortal
	}
	at, size := 0, 0
	for i, of := range x.heap {
		if of == n && size == 0 {
			at = 64*x.p.Scopes + x.p.Immortal + 8*i
		}
		if of == n {
			size += 8
		}
	}
	return at, size
}

func (x *plain) used(n int) int {
	sum := 0
	for _, o := range x.things {
		if o.scope == n && !o.gone {
			sum += o.bytes
		}
	}
	return sum
}

// thing is the object of a handle; nil, if there is none.
func (x *plain) thing(h uint64) *plainThing {
	for _, o := range x.things {
		if o.handle == h && !o.gone {
			return o
		}
	}
	return nil
}

// mayDo is whether all registers that a call names are there.
func mayDo(c api.Call) bool {
	r, h, v := c.R < 4, c.H < 4, c.V < 4
	switch c.Op {
	case 1, 7, 10:
		return r
	case 8:
		return r && h
	case 9:
		return h && v
	case 11:
		return v
	}
	return c.Op < 12
}

func (x *plain) do(thread int, c api.Call) (api.Answer, api.Errno) {
	if thread < 0 || thread >= x.p.Threads {
		return api.Answer{}, 2
	}
	if !mayDo(c) {
		return api.Answer{Code: 1}, 0
	}
	t := &x.threads[thread]
	var a api.Answer
	switch c.Op {
	case 1:
		t.regs[c.R] = uint64(c.A)
	case 2:
		a.N, a.Code = x.create(c.A)
	case 3:
		a.Code = x.destroy(c.A)
	case 4:
		a.Code = x.enter(t, c.A)
	case 5:
		a = x.exit(t)
	case 6:
		a.Code = x.in(t, c.A)
	case 7:
		a.N, a.Code = x.alloc(t, c)
	case 8:
		a.N, a.Code = x.load(t, c)
	case 9:
		a.Code = x.store(t, c)
	case 10:
		a.N, a.Code = x.portal(t, c)
	case 11:
		a.Code = x.gate(t, c)
	}
	return a, 0
}

func (x *plain) create(size int) (int, api.Errno) {
	if size < 1 || size > 8192 {
		return 0, 1
	}
	n := slices.IndexFunc(x.scopes, func(s plainScope) bool { return s.state == 0 })
	if n < 0 {
		return 0, 13
	}
	words := (size + 7) / 8
	for at := 0; at+words <= len(x.heap); at++ {
		piece := x.heap[at : at+words]
		if slices.Max(piece) == 0 {
			for i := range piece {
				piece[i] = n
			}
			x.scopes[n].state = 1
			return n, 0
		}
	}
	return 0, 14
}

func (x *plain) destroy(n int) api.Errno {
	if n == 0 || !x.isScope(n) || x.scopes[n].state == 0 {
		return 11
	}
	if x.scopes[n].state != 1 {
		return 12
	}
	for i, of := range x.heap {
		if of == n {
			x.heap[i] = 0
		}
	}
	x.scopes[n].state, x.scopes[n].epoch = 0, (x.scopes[n].epoch+1)%16777216
	return 0
}

// area is where a thread allocates.
func (t *plainThread) area() int {
	if n := len(t.entries); n > 0 {
		return t.entries[n-1].Scope
	}
	return 0
}

func (t *plainThread) reaches(scope int) bool {
	return scope == 0 || slices.Contains(t.entries, api.Entry{Scope: scope, Counted: true})
}

func (t *plainThread) push(scope int, counted bool) {
	t.entries = append(t.entries, api.Entry{Scope: scope, Counted: counted})
}

func (x *plain) enter(t *plainThread, n int) api.Errno {
	if n == 0 || !x.isScope(n) {
		return 11
	}
	if len(t.entries) == 6 {
		return 24
	}
	s := &x.scopes[n]
	switch {
	case s.state == 0:
		return 11
	case s.state == 1:
		s.state, s.count, s.parent = 2, 1, t.area()
	case s.parent != t.area():
		return 15
	case s.count == 7:
		return 16
	default:
		s.count++
	}
	t.push(n, true)
	return 0
}

func (x *plain) in(t *plainThread, n int) api.Errno {
	if !x.isScope(n) {
		return 11
	}
	if !t.reaches(n) {
		return 20
	}
	if len(t.entries) == 6 {
		return 24
	}
	t.push(n, false)
	return 0
}

func (x *plain) exit(t *plainThread) api.Answer {
	n := len(t.entries)
	if n == 0 {
		return api.Answer{Code: 23}
	}
	last := t.entries[n-1]
	s := &x.scopes[last.Scope]
	if last.Counted && s.count > 1 {
		s.count--
	} else if last.Counted {
		a, held := x.finalize(last.Scope)
		if held {
			a.Code = 25
			return a
		}
		for _, o := range x.things {
			if o.scope == last.Scope {
				o.gone = true
			}
		}
		*s = plainScope{state: 1, parent: -1, epoch: (s.epoch + 1) % 16777216}
		t.entries = t.entries[:n-1]
		return a
	}
	t.entries = t.entries[:n-1]
	return api.Answer{}
}

// finalize runs what is to be run of a scope; whether one held.
func (x *plain) finalize(scope int) (api.Answer, bool) {
	var l []*plainThing
	for _, o := range x.things {
		if o.scope == scope && !o.gone && !o.done && o.tag < len(x.fins) && len(x.fins[o.tag]) > 0 {
			l = append(l, o)
		}
	}
	slices.SortFunc(l, func(a, b *plainThing) int { return b.at - a.at })
	a, held := api.Answer{N: len(l)}, false
	for _, o := range l {
		said, holds := o.run(x.fins[o.tag])
		a.Said = append(a.Said, said...)
		held = held || holds
	}
	return a, held
}

// run is a finalizer, op by op; what it said, and whether it held.
func (o *plainThing) run(ops []api.FOp) ([]int, bool) {
	var said []int
	held := false
	o.done = true
	for at := 0; at < len(ops); at++ {
		a, b, n := ops[at].A, ops[at].B, len(o.slots)
		switch {
		case ops[at].Op == 0:
			said = append(said, a)
		case ops[at].Op == 1 && a < n:
			o.slots[a] = 0
		case ops[at].Op == 2 && a < n && b < n:
			o.slots[a] = o.slots[b]
		case ops[at].Op == 3 && a < n && o.slots[a] == 0:
			at += b
		case ops[at].Op == 4:
			held = true
		}
	}
	return said, held
}

func (x *plain) alloc(t *plainThread, c api.Call) (int, api.Errno) {
	if c.A < 0 || c.A > 6 || c.B < 0 || c.B > 512 || c.C < 0 || c.C > 7 {
		return 0, 1
	}
	scope := t.area()
	at, size := x.extent(scope)
	used, bytes := x.used(scope), 16+8*c.A+(c.B+7)/8*8
	if used+bytes > size {
		return 0, 17
	}
	o := &plainThing{handle: handle(scope, x.scopes[scope].epoch, at+used), scope: scope, at: at + used, bytes: bytes, tag: c.C, slots: make([]uint64, c.A)}
	x.things = append(x.things, o)
	t.regs[c.R] = o.handle
	return int(o.handle), 0
}

// check is what the chapter says of a number.
func (x *plain) check(t *plainThread, h uint64) (*plainThing, api.Errno) {
	at, scope, epoch := int(h%8192)*8, int(h>>24%256), int(h>>32)
	if at == 0 || scope > 7 || epoch > 16777215 || h != handle(scope, epoch, at) || !x.isScope(scope) {
		return nil, 18
	}
	if !t.reaches(scope) {
		return nil, 20
	}
	if x.scopes[scope].epoch != epoch {
		return nil, 19
	}
	if o := x.thing(h); o != nil {
		return o, 0
	}
	return nil, 18
}

// above is told by the scopes' parents.
func (x *plain) above(scope, below int) bool {
	if scope == 0 {
		return true
	}
	for up := below; up >= 0; up = x.scopes[up].parent {
		if up == scope {
			return true
		}
	}
	return false
}

func (x *plain) holder(t *plainThread, c api.Call) (*plainThing, api.Errno) {
	o, err := x.check(t, t.regs[c.H])
	if err != 0 {
		return nil, err
	}
	if c.B < 0 || c.B >= len(o.slots) {
		return nil, 21
	}
	return o, 0
}

// fits is whether what a register has may be referred to from a scope.
func (x *plain) fits(t *plainThread, v uint64, from int) api.Errno {
	if v == 0 {
		return 0
	}
	o, err := x.check(t, v)
	if err == 0 && !x.above(o.scope, from) {
		return 22
	}
	return err
}

func (x *plain) load(t *plainThread, c api.Call) (int, api.Errno) {
	o, err := x.holder(t, c)
	if err != 0 {
		return 0, err
	}
	t.regs[c.R] = o.slots[c.B]
	return int(o.slots[c.B]), 0
}

func (x *plain) store(t *plainThread, c api.Call) api.Errno {
	o, err := x.holder(t, c)
	if err != 0 {
		return err
	}
	if err := x.fits(t, t.regs[c.V], o.scope); err != 0 {
		return err
	}
	o.slots[c.B] = t.regs[c.V]
	return 0
}

func (x *plain) reached(t *plainThread, n int) api.Errno {
	if n == 0 || !x.isScope(n) {
		return 11
	}
	if !t.reaches(n) {
		return 20
	}
	return 0
}

func (x *plain) portal(t *plainThread, c api.Call) (int, api.Errno) {
	if err := x.reached(t, c.A); err != 0 {
		return 0, err
	}
	t.regs[c.R] = x.scopes[c.A].portal
	return int(t.regs[c.R]), 0
}

func (x *plain) gate(t *plainThread, c api.Call) api.Errno {
	if err := x.reached(t, c.A); err != 0 {
		return err
	}
	if err := x.fits(t, t.regs[c.V], c.A); err != 0 {
		return err
	}
	x.scopes[c.A].portal = t.regs[c.V]
	return 0
}

// both is a Model and a plain one: each call is made of both, and behind it all of both is the same.
type both struct {
	t *testing.T
	m *Model
	x *plain
}

// begun is both, just made.
func begun(t *testing.T, p api.Plan, fins [][]api.FOp) *both {
	t.Helper()
	m, err := New(p, fins)
	if m == nil || err != api.OK {
		t.Fatalf("New(%v, %v) = %v, %d", p, fins, m, err)
	}
	b := &both{t: t, m: m, x: plainOf(p, fins)}
	b.same()
	return b
}

// same holds all that may be asked against the plain one, and P12.4 against all of it.
func (b *both) same() {
	b.t.Helper()
	for n := -1; n <= b.x.p.Threads; n++ {
		b.sameThread(n)
	}
	for n := -1; n <= b.x.p.Scopes; n++ {
		b.sameScope(n)
	}
	for _, o := range b.x.things {
		b.sameThing(o)
	}
}

func (b *both) sameThread(n int) {
	b.t.Helper()
	var want plainThread
	many := 0
	if n >= 0 && n < b.x.p.Threads {
		want, many = b.x.threads[n], 4
	}
	if l := b.m.Regs(n); !slices.Equal(l, want.regs[:many]) {
		b.t.Fatalf("Regs(%d) = %v; want %v", n, l, want.regs[:many])
	}
	if l := b.m.Entries(n); !slices.Equal(l, want.entries) {
		b.t.Fatalf("Entries(%d) = %v; want %v", n, l, want.entries)
	}
}

func (b *both) sameScope(n int) {
	b.t.Helper()
	c, err := b.m.Ctl(n)
	if want, wantErr := b.x.ctl(n); c != want || err != wantErr {
		b.t.Fatalf("Ctl(%d) = %v, %d; want %v, %d", n, c, err, want, wantErr)
	}
	portal, used := uint64(0), 0
	if b.x.isScope(n) {
		portal, used = b.x.scopes[n].portal, b.x.used(n)
	}
	if h := b.m.Portal(n); h != portal {
		b.t.Fatalf("Portal(%d) = %d; want %d", n, h, portal)
	}
	if u := b.m.Used(n); u != used {
		b.t.Fatalf("Used(%d) = %d; want %d", n, u, used)
	}
	b.noLooseEnd(portal, n)
}

func (b *both) sameThing(o *plainThing) {
	b.t.Helper()
	slots, ok := b.m.Slots(o.handle)
	if o.gone {
		// Of a handle that came round again there may be another one.
		if b.x.thing(o.handle) == nil && (ok || slots != nil) {
			b.t.Fatalf("Slots(%d) = %v, %v of an object that is gone", o.handle, slots, ok)
		}
		return
	}
	if !ok || !slices.Equal(slots, o.slots) {
		b.t.Fatalf("Slots(%d) = %v, %v; want %v", o.handle, slots, ok, o.slots)
	}
	for _, h := range slots {
		b.noLooseEnd(h, o.scope)
	}
}

// noLooseEnd is P12.4, by what the Model tells alone: what a scope refers to is 0, or an object of that scope, or of one above it, of its epoch.
func (b *both) noLooseEnd(h uint64, from int) {
	b.t.Helper()
	if h == 0 {
		return
	}
	scope := int(h >> 24 & 255)
	if _, ok := b.m.Slots(h); !ok {
		b.t.Fatalf("the scope %d refers to %d, and that is no object's", from, h)
	}
	c, err := b.m.Ctl(scope)
	if err != api.OK || c.State != api.Live || c.Epoch != int(h>>32) {
		b.t.Fatalf("the scope %d refers to %d, of the scope %d, which is %v, %d", from, h, scope, c, err)
	}
	for up := from; scope != 0 && up != scope; {
		c, err := b.m.Ctl(up)
		if err != api.OK || c.Parent < 0 {
			b.t.Fatalf("the scope %d refers to %d, of the scope %d, which is not above it", from, h, scope)
		}
		up = c.Parent
	}
}

// looks is all that may be asked, told as numbers: what each thread has, and what all of them share.
type looks struct {
	threads [][]uint64
	shared  []uint64
}

func (b *both) looks() looks {
	var l looks
	for n := range b.x.p.Threads {
		own := b.m.Regs(n)
		for _, e := range b.m.Entries(n) {
			own = append(own, uint64(e.Scope))
			if e.Counted {
				own = append(own, math.MaxUint64)
			}
		}
		l.threads = append(l.threads, own)
	}
	for n := range b.x.p.Scopes {
		c, _ := b.m.Ctl(n)
		l.shared = append(l.shared, uint64(c.State), uint64(c.Count), uint64(c.Parent), uint64(c.Epoch), b.m.Portal(n), uint64(b.m.Used(n)))
	}
	for _, o := range b.x.things {
		slots, ok := b.m.Slots(o.handle)
		if ok {
			l.shared = append(append(l.shared, o.handle), slots...)
		}
	}
	return l
}

// stayed asks that a call changed no other thread, and, if it was refused, nothing.
func (b *both) stayed(was looks, thread int, c api.Call, a api.Answer) {
	b.t.Helper()
	is := b.looks()
	refused := a.Code != api.OK && a.Code != api.ErrHeld
	for n := range was.threads {
		if (n != thread || refused) && !slices.Equal(was.threads[n], is.threads[n]) {
			b.t.Fatalf("%v of the thread %d made of the thread %d, which was %v, %v", c, thread, n, was.threads[n], is.threads[n])
		}
	}
	if refused && (!slices.Equal(was.shared, is.shared) || a.N != 0 || len(a.Said) != 0) {
		b.t.Fatalf("%v of the thread %d was refused (%v), and made of %v: %v", c, thread, a, was.shared, is.shared)
	}
}

// answered makes a call of both, which must answer the same.
func (b *both) answered(thread int, c api.Call) api.Answer {
	b.t.Helper()
	a, err := b.m.Do(thread, c)
	want, wantErr := b.x.do(thread, c)
	if a.Code != want.Code || a.N != want.N || !slices.Equal(a.Said, want.Said) || err != wantErr {
		b.t.Fatalf("Do(%d, %v) = %v, %d; want %v, %d", thread, c, a, err, want, wantErr)
	}
	return a
}

// any makes a call of both, which must answer the same, and be the same behind it.
func (b *both) any(thread int, c api.Call) api.Answer {
	b.t.Helper()
	was := b.looks()
	a := b.answered(thread, c)
	b.stayed(was, thread, c, a)
	b.same()
	return a
}

// does makes a call that must answer this, written out.
func (b *both) does(thread int, c api.Call, code api.Errno, n int, said ...int) {
	b.t.Helper()
	if a := b.any(thread, c); a.Code != code || a.N != n || !slices.Equal(a.Said, said) {
		b.t.Fatalf("Do(%d, %v) = %v; want %d, %d, %v", thread, c, a, code, n, said)
	}
}

// ok makes a call that must answer OK, and 0.
func (b *both) ok(thread int, c api.Call) {
	b.t.Helper()
	b.does(thread, c, api.OK, 0)
}

// refuses makes a call that must be refused so.
func (b *both) refuses(thread int, c api.Call, code api.Errno) {
	b.t.Helper()
	b.does(thread, c, code, 0)
}

// gives makes a call that must answer this number, and put it into the register R.
func (b *both) gives(thread int, c api.Call, n uint64) {
	b.t.Helper()
	b.does(thread, c, api.OK, int(n))
	if r := b.m.Regs(thread)[c.R]; r != n {
		b.t.Fatalf("behind %v the register has %d; want %d", c, r, n)
	}
}

// What a scope, an object or a thread must be, written out.

func (b *both) ctl(n int, want api.Ctl) {
	b.t.Helper()
	if c, err := b.m.Ctl(n); c != want || err != api.OK {
		b.t.Fatalf("Ctl(%d) = %v, %d; want %v", n, c, err, want)
	}
}

func (b *both) slots(h uint64, want ...uint64) {
	b.t.Helper()
	if l, ok := b.m.Slots(h); !slices.Equal(l, want) || !ok {
		b.t.Fatalf("Slots(%d) = %v, %v; want %v", h, l, ok, want)
	}
}

func (b *both) gone(h uint64) {
	b.t.Helper()
	if l, ok := b.m.Slots(h); l != nil || ok {
		b.t.Fatalf("Slots(%d) = %v, %v; want none", h, l, ok)
	}
}

func (b *both) entries(thread int, want ...api.Entry) {
	b.t.Helper()
	if l := b.m.Entries(thread); !slices.Equal(l, want) {
		b.t.Fatalf("Entries(%d) = %v; want %v", thread, l, want)
	}
}

func (b *both) regs(thread int, want ...uint64) {
	b.t.Helper()
	if l := b.m.Regs(thread); !slices.Equal(l, want) {
		b.t.Fatalf("Regs(%d) = %v; want %v", thread, l, want)
	}
}

func (b *both) used(n, want int) {
	b.t.Helper()
	if u := b.m.Used(n); u != want {
		b.t.Fatalf("Used(%d) = %d; want %d", n, u, want)
	}
}

func (b *both) portal(n int, want uint64) {
	b.t.Helper()
	if h := b.m.Portal(n); h != want {
		b.t.Fatalf("Portal(%d) = %d; want %d", n, h, want)
	}
}

// The calls, in short.

func setTo(r uint8, n uint64) api.Call { return api.Call{Op: 1, R: r, A: int(n)} }
func create(size int) api.Call         { return api.Call{Op: 2, A: size} }
func destroy(n int) api.Call           { return api.Call{Op: 3, A: n} }
func enter(n int) api.Call             { return api.Call{Op: 4, A: n} }
func exit() api.Call                   { return api.Call{Op: 5} }
func in(n int) api.Call                { return api.Call{Op: 6, A: n} }
func load(r, h uint8, slot int) api.Call {
	return api.Call{Op: 8, R: r, H: h, B: slot}
}
func store(h uint8, slot int, v uint8) api.Call {
	return api.Call{Op: 9, H: h, V: v, B: slot}
}
func look(r uint8, n int) api.Call { return api.Call{Op: 10, R: r, A: n} }
func gate(n int, v uint8) api.Call { return api.Call{Op: 11, V: v, A: n} }
func alloc(r uint8, slots, bytes, tag int) api.Call {
	return api.Call{Op: 7, R: r, A: slots, B: bytes, C: tag}
}

func counted(n int) api.Entry { return api.Entry{Scope: n, Counted: true} }
func only(n int) api.Entry    { return api.Entry{Scope: n} }
