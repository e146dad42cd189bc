package begin

import (
	"math"
	"reflect"
	"slices"
	"testing"

	"penfold/api"
)

// in is an entry that is counted, at one that is not.
func in(scope int) api.Entry { return api.Entry{Scope: scope, Counted: true} }
func at(scope int) api.Entry { return api.Entry{Scope: scope} }

func list(l ...api.Entry) []api.Entry { return l }

// planned is a plan of so many scopes.
func planned(scopes int) api.Plan {
	return api.Plan{Scopes: scopes, Threads: 2, Immortal: 64, Heap: 512}
}

// handle is written out: the place in words, the scope from the bit 24 on, the epoch from the bit 32 on.
func handle(scope, epoch, at int) uint64 {
	return uint64(at/8) + uint64(scope)*16777216 + uint64(epoch)*4294967296
}

// far are numbers far from all bounds, and such as would be within if upper bits were lost.
func far() []int {
	l := []int{-1, -2, -7, -8, -256, -65536}
	for d := range 9 {
		l = append(l, math.MaxInt-d, math.MinInt+d)
	}
	for _, bits := range []int{8, 16, 31, 32, 48, 62} {
		l = append(l, 1<<bits, 1<<bits+1, 1<<bits+2, -1<<bits, -1<<bits+1, -1<<bits+2)
	}
	return l
}

// near are the numbers around all bounds that the chapter names.
func near() []int {
	return []int{-1, 0, 1, 2, 3, 4, 5, 6, 7, 8, 9, 511, 512, 513, 8191, 8192, 8193}
}

// plainCheck is what the chapter says of a number, told in another way: no layer below is asked.
func plainCheck(p api.Plan, l []api.Entry, h uint64) (api.Ref, api.Errno) {
	r := api.Ref{Scope: int(h / 16777216 % 256), Epoch: int(h / 4294967296), At: int(h%16777216) * 8}
	if r.At < 8 || r.At > 65528 || r.Epoch > 16777215 || r.Scope > 7 || r.Scope > p.Scopes-1 {
		return api.Ref{}, 18
	}
	if r.Scope > 0 && !slices.Contains(l, in(r.Scope)) {
		return api.Ref{}, 20
	}
	return r, 0
}

// plainOf is a call that begins, told in another way: all that stands against it is put side by side, and what the Op names first is told.
func plainOf(p api.Plan, regs []uint64, l []api.Entry, c api.Call) api.Run {
	r := api.Run{Call: c, Chain: l}
	for _, e := range l {
		r.Area = e.Scope
	}
	if c.H <= 3 {
		r.Hand = regs[c.H]
	}
	if c.V <= 3 {
		r.Val = regs[c.V]
	}
	r.Pc, r.Answer.Code = plainWay(p, r)
	return r
}

func plainWay(p api.Plan, r api.Run) (int, api.Errno) {
	// Of each Op: what it asks for, in order, a letter each; and the Pc of one that goes on.
	ways := []struct {
		asks string
		pc   int
	}{{"", 0}, {"R", 0}, {"g", 1}, {"s", 1}, {"sd", 13}, {"e", 15}, {"zrd", 0}, {"Rot", 5}, {"RHh", 5}, {"HVh", 5}, {"Rsr", 11}, {"Vsrv", 7}}
	if int(r.Call.Op) >= len(ways) {
		return 0, 1
	}
	against := plainAgainst(p, r)
	w := ways[r.Call.Op]
	for _, letter := range w.asks {
		if against[letter] != 0 {
			return 0, against[letter]
		}
	}
	if n := len(r.Chain); r.Call.Op == 5 && !r.Chain[n-1].Counted {
		return 0, 0
	}
	if r.Call.Op == 11 && r.Val == 0 {
		return 12, 0
	}
	return w.pc, 0
}

// plainAgainst is all that stands against a call, by the letters of what it may ask for.
func plainAgainst(p api.Plan, r api.Run) map[rune]api.Errno {
	c, against := r.Call, map[rune]api.Errno{}
	note := func(letter rune, holds bool, code api.Errno) {
		if !holds {
			against[letter] = code
		}
	}
	note('R', c.R <= 3, 1)
	note('H', c.H <= 3, 1)
	note('V', c.V <= 3, 1)
	note('g', c.A >= 1 && c.A <= 8192, 1)
	note('s', c.A >= 1 && c.A < p.Scopes, 11)
	note('z', c.A >= 0 && c.A < p.Scopes, 11)
	note('d', len(r.Chain) < 6, 24)
	note('e', len(r.Chain) > 0, 23)
	note('r', c.A == 0 || slices.Contains(r.Chain, in(c.A)), 20)
	note('o', c.A >= 0 && c.A <= 6 && c.B >= 0 && c.B <= 512, 1)
	note('t', c.C >= 0 && c.C <= 7, 1)
	_, against['h'] = plainCheck(p, r.Chain, r.Hand)
	if r.Val != 0 {
		_, against['v'] = plainCheck(p, r.Chain, r.Val)
	}
	return against
}

// bare is the same Run, with nil for each list that is empty.
func bare(r api.Run) api.Run {
	if len(r.Chain) == 0 {
		r.Chain = nil
	}
	for _, l := range []*[]int{&r.List, &r.Said, &r.Answer.Said} {
		if len(*l) == 0 {
			*l = nil
		}
	}
	return r
}

func same(a, b api.Run) bool { return reflect.DeepEqual(bare(a), bare(b)) }

// begins makes a call begin, holds all of its Run against the plain one, and what was handed in, with the room behind it, against what it was.
func begins(t *testing.T, p api.Plan, regs []uint64, l []api.Entry, c api.Call) api.Run {
	t.Helper()
	stray := in(77)
	ownRegs, own := slices.Clone(regs), append(slices.Clone(l), stray, stray)[:len(l)]
	r := Of(p, ownRegs, own, c)
	if want := plainOf(p, regs, l, c); !same(r, want) {
		t.Fatalf("Of(%v, %v, %v, %v) = %v; want %v", p, regs, l, c, r, want)
	}
	if !slices.Equal(ownRegs, regs) || !slices.Equal(own[:len(l)+2], append(slices.Clone(l), stray, stray)) {
		t.Fatalf("Of(%v, %v, %v, %v) made of what was handed in %v, %v", p, regs, l, c, ownRegs, own[:len(l)+2])
	}
	return r
}

// goes asks that a call goes on with this Pc, and refuses that it is refused so, both with what is written out.

func goes(t *testing.T, p api.Plan, regs []uint64, l []api.Entry, c api.Call, pc int) {
	t.Helper()
	if r := begins(t, p, regs, l, c); r.Pc != pc || r.Answer.Code != api.OK {
		t.Fatalf("Of(%v, %v, %v, %v) has Pc %d, Code %d; want Pc %d, Code 0", p, regs, l, c, r.Pc, r.Answer.Code, pc)
	}
}

func refuses(t *testing.T, p api.Plan, regs []uint64, l []api.Entry, c api.Call, code api.Errno) {
	t.Helper()
	if r := begins(t, p, regs, l, c); r.Pc != 0 || r.Answer.Code != code {
		t.Fatalf("Of(%v, %v, %v, %v) has Pc %d, Code %d; want Pc 0, Code %d", p, regs, l, c, r.Pc, r.Answer.Code, code)
	}
}
