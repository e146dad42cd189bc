package model

import (
	"slices"

	"penfold/api"
	"penfold/chain"
	"penfold/fin"
	"penfold/head"
	"penfold/num"
	"penfold/ref"
)

// doing is a call that a thread makes of a model: what is of any of the three is its own by name.
type doing struct {
	*Model
	*thread
	api.Call
}

// answer does the call.
func (d doing) answer() api.Answer {
	does, registers := d.way()
	if does == nil || slices.ContainsFunc(registers, isNoRegister) {
		return refused(api.ErrArg)
	}
	return does()
}

// way is what does the call, and which registers that names; none, if there is no such Op.
func (d doing) way() (func() api.Answer, []uint8) {
	switch d.Op {
	case api.CaNone:
		return d.nothing, nil
	case api.CaSet:
		return d.set, []uint8{d.R}
	case api.CaCreate:
		return d.create, nil
	case api.CaDestroy:
		return d.destroy, nil
	case api.CaEnter:
		return d.enter, nil
	case api.CaExit:
		return d.exit, nil
	case api.CaIn:
		return d.in, nil
	case api.CaAlloc:
		return d.alloc, []uint8{d.R}
	case api.CaLoad:
		return d.load, []uint8{d.R, d.H}
	case api.CaStore:
		return d.store, []uint8{d.H, d.V}
	case api.CaPortal:
		return d.look, []uint8{d.R}
	case api.CaGate:
		return d.gate, []uint8{d.V}
	}
	return nil, nil
}

func (d doing) nothing() api.Answer { return api.Answer{} }

func (d doing) set() api.Answer {
	d.regs[d.R] = uint64(d.A)
	return api.Answer{}
}

func (d doing) create() api.Answer {
	n, err := d.forest.Create(d.A)
	return api.Answer{Code: err, N: n}
}

func (d doing) destroy() api.Answer { return api.Answer{Code: d.forest.Destroy(d.A)} }

func (d doing) enter() api.Answer {
	if !d.isScope() {
		return refused(api.ErrScope)
	}
	// Ahead of the forest, which would keep what is entered too deep.
	within, err := chain.Push(d.entries, api.Entry{Scope: d.A, Counted: true})
	if err != api.OK {
		return refused(err)
	}
	if err := d.forest.Enter(d.A, chain.Area(d.entries)); err != api.OK {
		return refused(err)
	}
	d.entries = within
	return api.Answer{}
}

func (d doing) exit() api.Answer {
	rest, last, err := chain.Pop(d.entries)
	if err != api.OK {
		return refused(err)
	}
	var a api.Answer
	if last.Counted {
		a = d.leave(last.Scope)
	}
	if a.Code == api.OK {
		d.entries = rest
	}
	return a
}

func (d doing) in() api.Answer {
	if !d.hasScope(d.A) {
		return refused(api.ErrScope)
	}
	if !chain.Reach(d.entries, d.A) {
		return refused(api.ErrReach)
	}
	within, err := chain.Push(d.entries, api.Entry{Scope: d.A})
	if err != api.OK {
		return refused(err)
	}
	d.entries = within
	return api.Answer{}
}

func (d doing) alloc() api.Answer {
	words, err := head.Words(d.A, d.B)
	if err != api.OK || !num.Within(d.C, 0, api.MaxTags-1) {
		return refused(api.ErrArg)
	}
	scope, bytes := chain.Area(d.entries), words*api.Word
	r, err := d.room(scope, bytes)
	if err != api.OK {
		return refused(err)
	}
	h, err := ref.Pack(r)
	if err != api.OK {
		return refused(err)
	}
	d.objects[h] = &object{Ref: r, slots: make([]uint64, d.A), tag: d.C}
	a := &d.areas[scope]
	a.used += bytes
	a.handles = append(a.handles, h)
	return d.give(h)
}

func (d doing) load() api.Answer {
	o, err := d.holder()
	if err != api.OK {
		return refused(err)
	}
	return d.give(o.slots[d.B])
}

func (d doing) store() api.Answer {
	o, err := d.holder()
	if err != api.OK {
		return refused(err)
	}
	if err := d.fits(o.Scope); err != api.OK {
		return refused(err)
	}
	o.slots[d.B] = d.regs[d.V]
	return api.Answer{}
}

func (d doing) look() api.Answer {
	if err := d.reached(); err != api.OK {
		return refused(err)
	}
	return d.give(d.areas[d.A].portal)
}

func (d doing) gate() api.Answer {
	if err := d.reached(); err != api.OK {
		return refused(err)
	}
	if err := d.fits(d.A); err != api.OK {
		return refused(err)
	}
	d.areas[d.A].portal = d.regs[d.V]
	return api.Answer{}
}

// give is a number that is told, and is the register R.
func (d doing) give(n uint64) api.Answer {
	d.regs[d.R] = n
	return api.Answer{N: int(n)}
}

// isScope tells whether the scope A is one that may be entered.
func (d doing) isScope() bool { return d.A != 0 && d.hasScope(d.A) }

// reached is what stands against looking at, or putting, the portal of the scope A.
func (d doing) reached() api.Errno {
	if !d.isScope() {
		return api.ErrScope
	}
	if !chain.Reach(d.entries, d.A) {
		return api.ErrReach
	}
	return api.OK
}

// holder is the object whose slot B is asked for.
func (d doing) holder() (*object, api.Errno) {
	o, err := d.check(d.regs[d.H])
	if err != api.OK {
		return nil, err
	}
	if !num.Within(d.B, 0, len(o.slots)-1) {
		return nil, api.ErrSlot
	}
	return o, api.OK
}

// fits is what stands against a reference from a scope to what the register V has.
func (d doing) fits(from int) api.Errno {
	v := d.regs[d.V]
	if v == 0 {
		return api.OK
	}
	o, err := d.check(v)
	if err != api.OK {
		return err
	}
	if !chain.Above(d.entries, o.Scope, from) {
		return api.ErrAssign
	}
	return api.OK
}

// check is the object of a number, or what stands against the thread's using it.
func (d doing) check(h uint64) (*object, api.Errno) {
	r, err := ref.Unpack(h)
	if err != api.OK {
		return nil, err
	}
	c, err := d.Ctl(r.Scope)
	if err != api.OK {
		// A handle may tell a scope that the plan has not; it is none of this model's then.
		return nil, api.ErrHandle
	}
	if !chain.Reach(d.entries, r.Scope) {
		return nil, api.ErrReach
	}
	if r.Epoch != c.Epoch {
		return nil, api.ErrStale
	}
	o, ok := d.objects[h]
	if !ok {
		return nil, api.ErrHandle
	}
	return o, api.OK
}

// room is where an object of so many bytes would stand, behind all others of its scope.
func (m *Model) room(scope, bytes int) (api.Ref, api.Errno) {
	c, err := m.forest.Ctl(scope)
	if err != api.OK {
		return api.Ref{}, err
	}
	extent, err := m.forest.Extent(scope)
	if err != api.OK {
		return api.Ref{}, err
	}
	used := m.areas[scope].used
	if used+bytes > extent.Size {
		return api.Ref{}, api.ErrMemory
	}
	return api.Ref{Scope: scope, Epoch: c.Epoch, At: extent.At + used}, api.OK
}

// leave is of one that is counted in a scope.
func (m *Model) leave(scope int) api.Answer {
	last, err := m.forest.Leave(scope)
	if err != api.OK || !last {
		return api.Answer{Code: err}
	}
	a := m.finalize(scope)
	if a.Code == api.ErrHeld {
		// This takes back what Leave did: the scope is as if nobody had tried.
		m.forest.Hold(scope)
		return a
	}
	m.empty(scope)
	m.forest.Open(scope)
	return a
}

// finalize runs the finalizers of a scope's objects that were not run yet.
func (m *Model) finalize(scope int) api.Answer {
	var a api.Answer
	for _, h := range slices.Backward(m.areas[scope].handles) {
		o := m.objects[h]
		ops := fin.Of(m.fins, o.tag)
		if o.done || len(ops) == 0 {
			continue
		}
		slots, said, held, _ := fin.Run(ops, o.slots)
		o.slots, o.done = slots, true
		a.Said = append(a.Said, said...)
		a.N++
		if held {
			// Those that come behind one that holds are finalized, too.
			a.Code = api.ErrHeld
		}
	}
	return a
}

// empty takes all that a scope has.
func (m *Model) empty(scope int) {
	for _, h := range m.areas[scope].handles {
		delete(m.objects, h)
	}
	m.areas[scope] = area{}
}

func refused(code api.Errno) api.Answer { return api.Answer{Code: code} }

func isNoRegister(r uint8) bool { return r >= api.MaxRegs }
