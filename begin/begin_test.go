package begin

import (
	"math"
	"math/rand"
	"slices"
	"testing"

	"penfold/api"
)

// regs are an object of the immortal scope, one of the scope 1, one of the scope 2, and none.
func regs() []uint64 {
	return []uint64{handle(0, 0, 256), handle(1, 0, 320), handle(2, 0, 384), 0}
}

// deep are so many entries, of the scopes 1 and 0 in turn, of which those of 1 are counted.
func deep(n int) []api.Entry {
	var l []api.Entry
	for i := range n {
		l = append(l, api.Entry{Scope: 1 - i%2, Counted: i%2 == 0})
	}
	return l
}

// full is a Run whose fields are all other than zero.
func full() api.Run {
	return api.Run{
		Call: api.Call{Op: 5, R: 1, H: 2, V: 3, A: 4, B: 5, C: 6},
		Pc:   7, Area: 8, Hand: 9, Val: 10, Chain: list(in(1), at(2)), Word: 11, Next: 12, At: 13, Top: 14,
		List: []int{15, 16}, Op: 17, Said: []int{18, 19}, N: 20, Held: true,
		Answer: api.Answer{Code: 21, N: 22, Said: []int{23}},
	}
}

// codes are all errors that there are, and OK.
func codes() []api.Errno {
	return []api.Errno{0, 1, 2, 3, 10, 11, 12, 13, 14, 15, 16, 17, 18, 19, 20, 21, 22, 23, 24, 25, 30}
}

// P13.3: the chapter's example.
func TestExample(t *testing.T) {
	refuses(t, planned(3), regs(), nil, api.Call{Op: api.CaExit}, api.ErrEmpty)
}

// P13.1: what is told is done, with its point, and the answer; all else is as it was.
func TestTell(t *testing.T) {
	for _, code := range codes() {
		for _, n := range []int{0, 1, -1, 8192, math.MaxInt, math.MinInt} {
			for _, said := range [][]int{nil, {}, {7}, {99, 0, 7, 7}} {
				for _, r := range []api.Run{{}, full(), {Done: true}, {Point: true}} {
					r.Said = said
					want := r
					want.Done, want.Point, want.Answer = true, true, api.Answer{Code: code, N: n, Said: said}
					if told := Tell(r, code, n); !same(told, want) {
						t.Fatalf("Tell(%v, %d, %d) = %v; want %v", r, code, n, told, want)
					}
				}
			}
		}
	}
}

// P13.1: what was answered ahead of it, and said there, is not in what is told; one that has said nothing tells nothing.
func TestTellAgain(t *testing.T) {
	r := full()
	r.Said = nil
	if a := Tell(r, api.OK, 3).Answer; a.Code != api.OK || a.N != 3 || len(a.Said) != 0 {
		t.Errorf("told %v; want {0 3 []}", a)
	}
	r.Said = []int{5, 6}
	once := Tell(r, api.ErrHeld, 4)
	if a := Tell(once, api.ErrWait, -5).Answer; a.Code != api.ErrWait || a.N != -5 || !slices.Equal(a.Said, []int{5, 6}) {
		t.Errorf("told %v; want {10 -5 [5 6]}", a)
	}
}

// P13.1: each call that is refused by what its thread knows, or is done by that alone, is told with the Code that it has.
func TestTellWhatBegan(t *testing.T) {
	for _, x := range []struct {
		c    api.Call
		code api.Errno
	}{{api.Call{}, api.OK}, {api.Call{Op: 1, R: 4}, api.ErrArg}, {api.Call{Op: 4}, api.ErrScope}, {api.Call{Op: 5}, api.ErrEmpty}, {api.Call{Op: 8, H: 3}, api.ErrHandle}} {
		r := begins(t, planned(3), regs(), nil, x.c)
		want := r
		want.Done, want.Point = true, true
		if told := Tell(r, r.Answer.Code, 0); !same(told, want) || told.Answer.Code != x.code {
			t.Errorf("of %v is told %v; want %v", x.c, told, want)
		}
	}
}

// P13.2: a number that is no handle, one of a scope that is not in the plan, one that is not reached, and one that is.
func TestCheck(t *testing.T) {
	p, l := planned(3), list(in(1), at(2), at(0))
	for _, x := range []struct {
		h    uint64
		want api.Ref
		err  api.Errno
	}{
		{0, api.Ref{}, api.ErrHandle},
		{1, api.Ref{At: 8}, api.OK},
		{24, api.Ref{At: 192}, api.OK},
		{8191, api.Ref{At: 65528}, api.OK},
		{8192, api.Ref{}, api.ErrHandle},
		{16777216, api.Ref{}, api.ErrHandle}, // of the scope 1, at 0
		{16777217, api.Ref{Scope: 1, At: 8}, api.OK},
		{16777248, api.Ref{Scope: 1, At: 256}, api.OK},
		{4294967296 + 16777217, api.Ref{Scope: 1, Epoch: 1, At: 8}, api.OK},
		{handle(1, 16777215, 65528), api.Ref{Scope: 1, Epoch: 16777215, At: 65528}, api.OK}, // whatever the epoch
		{handle(0, 16777215, 8), api.Ref{Epoch: 16777215, At: 8}, api.OK},
		{handle(2, 0, 8), api.Ref{}, api.ErrReach}, // there, but not counted
		{handle(2, 3, 65528), api.Ref{}, api.ErrReach},
		{handle(3, 0, 8), api.Ref{}, api.ErrHandle},
		{handle(7, 16777215, 65528), api.Ref{}, api.ErrHandle},
		{handle(8, 0, 8), api.Ref{}, api.ErrHandle},
		{handle(2, 0, 0), api.Ref{}, api.ErrHandle}, // no handle, ahead of what is not reached
		{handle(2, 0, 8) + 1<<56, api.Ref{}, api.ErrHandle},
		{handle(1, 0, 8) + 1<<13, api.Ref{}, api.ErrHandle},
		{handle(1, 0, 8) + 1<<23, api.Ref{}, api.ErrHandle},
		{handle(1, 0, 8) + 1<<31, api.Ref{}, api.ErrHandle},
		{handle(1, 0, 8) + 1<<63, api.Ref{}, api.ErrHandle},
		{math.MaxUint64, api.Ref{}, api.ErrHandle},
		{1 << 63, api.Ref{}, api.ErrHandle},
	} {
		if r, err := Check(p, l, x.h); r != x.want || err != x.err {
			t.Errorf("Check(%x) = %v, %d; want %v, %d", x.h, r, err, x.want, x.err)
		}
	}
}

// numbers are handles of each scope, of epochs and places at both ends, and numbers beside them.
func numbers() []uint64 {
	l := []uint64{0, math.MaxUint64}
	for bit := range 64 {
		l = append(l, 1<<bit, 1<<bit-1, handle(1, 1, 320)^1<<bit)
	}
	for scope := range 10 {
		for _, epoch := range []int{0, 1, 16777215, 16777216} {
			for _, at := range []int{0, 8, 16, 320, 65528, 65536} {
				l = append(l, handle(scope, epoch, at))
			}
		}
	}
	return l
}

// P13.2: each number, of each plan, by threads that are within many things.
func TestCheckEach(t *testing.T) {
	lists := [][]api.Entry{nil, {}, list(at(1)), list(in(1)), list(in(2), in(1)), list(in(1), at(1), in(3)), list(in(7), in(4)), list(at(0), at(7)), list(in(1), in(2), in(3), in(4), in(5), in(6))}
	for scopes := 1; scopes <= 8; scopes++ {
		for _, l := range lists {
			was := slices.Clone(l)
			for _, h := range numbers() {
				r, err := Check(planned(scopes), l, h)
				if want, wantErr := plainCheck(planned(scopes), l, h); r != want || err != wantErr {
					t.Fatalf("Check(%d scopes, %v, %x) = %v, %d; want %v, %d", scopes, l, h, r, err, want, wantErr)
				}
			}
			if !slices.Equal(l, was) {
				t.Fatalf("%v became %v", was, l)
			}
		}
	}
}

// P13.3: each Op that names no register is the same whatever R, H and V are; Hand and Val are 0, where there is no such register.
func TestNoRegisters(t *testing.T) {
	for _, x := range []struct {
		c  api.Call
		pc int
	}{{api.Call{}, api.PcTell}, {api.Call{Op: 2, A: 8}, api.PcMake}, {api.Call{Op: 3, A: 1}, api.PcMake}, {api.Call{Op: 4, A: 1}, api.PcLook}, {api.Call{Op: 5}, api.PcSee}, {api.Call{Op: 6, A: 1}, api.PcTell}} {
		for _, n := range []uint8{0, 3, 4, 5, 127, 128, 255} {
			c := x.c
			c.R, c.H, c.V = n, n, n
			goes(t, planned(3), regs(), list(in(1)), c, x.pc)
		}
	}
}

// P13.3: each register that an Op names must be there; of the others nothing is asked.
func TestRegisters(t *testing.T) {
	named := map[uint8]struct{ r, h, v bool }{1: {r: true}, 7: {r: true}, 8: {r: true, h: true}, 9: {h: true, v: true}, 10: {r: true}, 11: {v: true}}
	many := []uint8{0, 3, 4, 5, 255}
	own := []uint64{handle(1, 0, 320), 0, 0, handle(1, 0, 344)}
	for op, x := range named {
		for _, r := range many {
			for _, h := range many {
				for _, v := range many {
					told := begins(t, planned(3), own, list(in(1)), api.Call{Op: op, R: r, H: h, V: v, A: 1})
					refused := x.r && r >= 4 || x.h && h >= 4 || x.v && v >= 4
					if (told.Answer.Code == api.ErrArg) != refused || !refused && told.Answer.Code != api.OK {
						t.Fatalf("of the Op %d, R %d, H %d, V %d: %d", op, r, h, v, told.Answer.Code)
					}
					if h >= 4 && told.Hand != 0 || v >= 4 && told.Val != 0 || h < 4 && told.Hand != own[h] || v < 4 && told.Val != own[v] {
						t.Fatalf("H %d, V %d: Hand %x, Val %x", h, v, told.Hand, told.Val)
					}
				}
			}
		}
	}
}

// P13.3: nothing stands against no call; a register is set to whatever number.
func TestNoneAndSet(t *testing.T) {
	for _, n := range append(far(), near()...) {
		goes(t, planned(3), regs(), nil, api.Call{Op: api.CaNone, A: n, B: n, C: n}, api.PcTell)
		goes(t, planned(3), regs(), deep(6), api.Call{Op: api.CaSet, R: 3, A: n, B: n, C: n}, api.PcTell)
		refuses(t, planned(3), regs(), nil, api.Call{Op: api.CaSet, R: 4, A: n}, api.ErrArg)
	}
}

// P13.3: a scope of 1 byte to 8192.
func TestCreate(t *testing.T) {
	for _, n := range []int{1, 2, 7, 8, 9, 4096, 8191, 8192} {
		goes(t, planned(1), regs(), nil, api.Call{Op: api.CaCreate, A: n}, api.PcMake)
		goes(t, planned(3), regs(), deep(6), api.Call{Op: api.CaCreate, A: n}, api.PcMake)
	}
	for _, n := range append(far(), 0, 8193, 8194, 16384) {
		if n < 1 || n > 8192 {
			refuses(t, planned(3), regs(), nil, api.Call{Op: api.CaCreate, A: n}, api.ErrArg)
		}
	}
}

// P13.3: a scope is unmade, entered, looked at or given a portal just if it is from 1 to Scopes less 1, of each number of scopes.
func TestScopes(t *testing.T) {
	all := list(in(1), in(2), in(3), in(4), in(5))
	for scopes := 1; scopes <= 8; scopes++ {
		p := planned(scopes)
		for n := 1; n < scopes; n++ {
			goes(t, p, regs(), all, api.Call{Op: api.CaDestroy, A: n}, api.PcMake)
			goes(t, p, regs(), all, api.Call{Op: api.CaEnter, A: n}, api.PcLook)
			if n <= 5 {
				goes(t, p, regs(), all, api.Call{Op: api.CaPortal, A: n}, api.PcPortal)
				goes(t, p, regs(), all, api.Call{Op: api.CaGate, A: n, V: 3}, api.PcGate)
			}
		}
		for _, n := range append(far(), 0, scopes, scopes+1, 8, 9) {
			for _, op := range []uint8{api.CaDestroy, api.CaEnter, api.CaPortal, api.CaGate} {
				refuses(t, p, regs(), all, api.Call{Op: op, A: n}, api.ErrScope)
			}
		}
	}
}

// P13.3: who has six entries enters nothing more, be they counted or not; a scope that is none is told ahead of that.
func TestEnter(t *testing.T) {
	for n := range 7 {
		for _, l := range [][]api.Entry{deep(n), slices.Repeat(list(in(2)), n), slices.Repeat(list(at(0)), n)} {
			if n < 6 {
				goes(t, planned(3), regs(), l, api.Call{Op: api.CaEnter, A: 1}, api.PcLook)
				goes(t, planned(3), regs(), l, api.Call{Op: api.CaEnter, A: 2}, api.PcLook)
			} else {
				refuses(t, planned(3), regs(), l, api.Call{Op: api.CaEnter, A: 1}, api.ErrDeep)
				refuses(t, planned(3), regs(), l, api.Call{Op: api.CaEnter, A: 2}, api.ErrDeep)
			}
			refuses(t, planned(3), regs(), l, api.Call{Op: api.CaEnter, A: 3}, api.ErrScope)
			refuses(t, planned(3), regs(), l, api.Call{Op: api.CaEnter, A: 0}, api.ErrScope)
		}
	}
}

// P13.3: who is within nothing leaves nothing; only the last entry says whether others must be asked.
func TestExit(t *testing.T) {
	refuses(t, planned(3), regs(), nil, api.Call{Op: api.CaExit}, api.ErrEmpty)
	refuses(t, planned(3), regs(), list(), api.Call{Op: api.CaExit}, api.ErrEmpty)
	for _, l := range [][]api.Entry{list(in(1)), list(at(0), in(2)), list(in(1), in(1)), append(deep(5), in(1))} {
		goes(t, planned(3), regs(), l, api.Call{Op: api.CaExit}, api.PcSee)
	}
	for _, l := range [][]api.Entry{list(at(0)), list(in(1), at(1)), list(in(1), in(2), at(1)), append(deep(5), at(0))} {
		goes(t, planned(3), regs(), l, api.Call{Op: api.CaExit}, api.PcTell)
	}
	for _, n := range far() {
		goes(t, planned(3), regs(), list(in(1)), api.Call{Op: api.CaExit, A: n, B: n, C: n}, api.PcSee)
	}
}

// P13.3: a thread goes back into a scope that it reaches, the immortal one always, as long as it has fewer than six entries; of what stands against it the scope comes first, then that it is not reached.
func TestIn(t *testing.T) {
	p := planned(4)
	for n := range 7 {
		l := deep(n)
		code := func(most api.Errno) api.Errno {
			if n == 6 {
				return most
			}
			return api.OK
		}
		for _, x := range []struct {
			scope int
			code  api.Errno
		}{{0, code(api.ErrDeep)}, {2, api.ErrReach}, {3, api.ErrReach}, {4, api.ErrScope}, {-1, api.ErrScope}, {8, api.ErrScope}} {
			if r := begins(t, p, regs(), l, api.Call{Op: api.CaIn, A: x.scope}); r.Pc != api.PcTell || r.Answer.Code != x.code {
				t.Errorf("in of %d, with %d entries: Pc %d, Code %d; want Code %d", x.scope, n, r.Pc, r.Answer.Code, x.code)
			}
		}
	}
	goes(t, p, regs(), list(in(1)), api.Call{Op: api.CaIn, A: 1}, api.PcTell)
	goes(t, p, regs(), list(in(3), in(2), at(3)), api.Call{Op: api.CaIn, A: 2}, api.PcTell)
	goes(t, planned(1), regs(), nil, api.Call{Op: api.CaIn}, api.PcTell)
	refuses(t, p, regs(), list(at(1)), api.Call{Op: api.CaIn, A: 1}, api.ErrReach)
	refuses(t, p, regs(), deep(6), api.Call{Op: api.CaIn, A: 1}, api.ErrDeep)
	refuses(t, p, regs(), slices.Repeat(list(in(3)), 6), api.Call{Op: api.CaIn, A: 1}, api.ErrReach)
	for _, n := range far() {
		refuses(t, p, regs(), list(in(1)), api.Call{Op: api.CaIn, A: n}, api.ErrScope)
		refuses(t, p, regs(), deep(6), api.Call{Op: api.CaIn, A: n}, api.ErrScope)
	}
}

// P13.3: an object of up to six slots and 512 bytes, with a tag up to 7, wherever the thread is; whether there is room for it others say.
func TestAlloc(t *testing.T) {
	for slots := -1; slots <= 8; slots++ {
		for _, bytes := range []int{-1, 0, 1, 8, 511, 512, 513, 1024} {
			for tag := -1; tag <= 9; tag++ {
				c := api.Call{Op: api.CaAlloc, R: 3, H: 9, V: 9, A: slots, B: bytes, C: tag}
				if slots >= 0 && slots <= 6 && bytes >= 0 && bytes <= 512 && tag >= 0 && tag <= 7 {
					goes(t, planned(2), regs(), nil, c, api.PcCtl)
					goes(t, planned(2), regs(), deep(6), c, api.PcCtl)
				} else {
					refuses(t, planned(2), regs(), nil, c, api.ErrArg)
					refuses(t, planned(2), regs(), deep(6), c, api.ErrArg)
				}
			}
		}
	}
	for _, n := range far() {
		refuses(t, planned(2), regs(), nil, api.Call{Op: api.CaAlloc, A: n}, api.ErrArg)
		if n < 256 || n > 512 {
			refuses(t, planned(2), regs(), nil, api.Call{Op: api.CaAlloc, B: n}, api.ErrArg)
		}
		refuses(t, planned(2), regs(), nil, api.Call{Op: api.CaAlloc, C: n}, api.ErrArg)
		refuses(t, planned(2), regs(), nil, api.Call{Op: api.CaAlloc, A: n, B: n, C: n}, api.ErrArg)
	}
}

// P13.3: a load and a store ask for the number that the register H has, a store not for that of V, and neither for the slot.
func TestLoadAndStore(t *testing.T) {
	p, l := planned(3), list(in(1), at(2))
	for _, x := range []struct {
		h    uint64
		code api.Errno
	}{
		{handle(1, 0, 320), api.OK}, {handle(1, 16777215, 65528), api.OK}, {handle(0, 7, 8), api.OK},
		{handle(2, 0, 8), api.ErrReach}, {handle(3, 0, 8), api.ErrHandle}, {handle(1, 0, 0), api.ErrHandle}, {0, api.ErrHandle}, {math.MaxUint64, api.ErrHandle}, {handle(1, 0, 8) + 1<<60, api.ErrHandle},
	} {
		for _, v := range []uint64{0, 5, handle(1, 0, 320), handle(2, 0, 320), handle(3, 0, 320), math.MaxUint64} {
			for _, n := range append(far(), near()...) {
				own := []uint64{7, x.h, v, 8}
				for _, c := range []api.Call{{Op: api.CaLoad, R: 0, H: 1, V: 2, B: n}, {Op: api.CaStore, R: 9, H: 1, V: 2, A: n, B: n, C: n}} {
					if x.code == api.OK {
						goes(t, p, own, l, c, api.PcCtl)
					} else {
						refuses(t, p, own, l, c, x.code)
					}
				}
			}
		}
	}
	// A register that is not there comes ahead of what the others have.
	refuses(t, p, regs(), nil, api.Call{Op: api.CaLoad, R: 4, H: 3}, api.ErrArg)
	refuses(t, p, regs(), nil, api.Call{Op: api.CaLoad, R: 0, H: 4}, api.ErrArg)
	refuses(t, p, regs(), nil, api.Call{Op: api.CaStore, H: 3, V: 4}, api.ErrArg)
	refuses(t, p, regs(), nil, api.Call{Op: api.CaStore, H: 4, V: 3}, api.ErrArg)
}

// P13.3: a portal is looked at by who reaches it; it has none of the immortal scope's.
func TestPortal(t *testing.T) {
	p, l := planned(4), list(in(1), at(2))
	goes(t, p, regs(), l, api.Call{Op: api.CaPortal, R: 3, H: 9, V: 9, A: 1}, api.PcPortal)
	refuses(t, p, regs(), l, api.Call{Op: api.CaPortal, A: 2}, api.ErrReach) // within, but not counted
	refuses(t, p, regs(), l, api.Call{Op: api.CaPortal, A: 3}, api.ErrReach)
	refuses(t, p, regs(), l, api.Call{Op: api.CaPortal, A: 0}, api.ErrScope)
	refuses(t, p, regs(), l, api.Call{Op: api.CaPortal, A: 4}, api.ErrScope)
	for _, n := range append(far(), near()...) {
		refuses(t, p, regs(), l, api.Call{Op: api.CaPortal, R: 4, A: n}, api.ErrArg)
	}
}

// P13.3: a gate asks for a register, a scope, whether that is reached, and, in this order behind them, for what is to be put; a 0 may always be.
func TestGate(t *testing.T) {
	p, l := planned(4), list(in(1), at(2))
	for _, x := range []struct {
		v    uint64
		code api.Errno
		pc   int
	}{
		{0, api.OK, api.PcGate},
		{handle(1, 0, 320), api.OK, api.PcValCtl}, {handle(1, 16777215, 8), api.OK, api.PcValCtl}, {handle(0, 0, 65528), api.OK, api.PcValCtl},
		{handle(2, 0, 320), api.ErrReach, api.PcTell}, {handle(3, 9, 320), api.ErrReach, api.PcTell},
		{handle(4, 0, 320), api.ErrHandle, api.PcTell}, {handle(1, 0, 0), api.ErrHandle, api.PcTell}, {math.MaxUint64, api.ErrHandle, api.PcTell}, {1 << 13, api.ErrHandle, api.PcTell},
	} {
		own := []uint64{1, 2, 3, x.v}
		c := api.Call{Op: api.CaGate, R: 9, H: 9, V: 3, A: 1}
		if x.code == api.OK {
			goes(t, p, own, l, c, x.pc)
		} else {
			refuses(t, p, own, l, c, x.code)
		}
		for _, n := range []int{2, 3} {
			c.A = n
			refuses(t, p, own, l, c, api.ErrReach)
		}
		for _, n := range append(far(), 0, 4, 5, 7, 8) {
			c.A = n
			refuses(t, p, own, l, c, api.ErrScope)
			c.V = 4
			refuses(t, p, own, l, c, api.ErrArg)
			c.V = 3
		}
	}
}

// P13.3: an Op that there is not is ErrArg, whatever else there is.
func TestNoSuchOp(t *testing.T) {
	for op := 12; op <= 255; op++ {
		for _, l := range [][]api.Entry{nil, list(in(1)), deep(6)} {
			refuses(t, planned(3), regs(), l, api.Call{Op: uint8(op), R: 1, H: 1, V: 1, A: 1}, api.ErrArg)
			refuses(t, planned(3), regs(), l, api.Call{Op: uint8(op), R: 4, H: 4, V: 4, A: -1, B: -1, C: -1}, api.ErrArg)
		}
	}
}

// P13.3: the Area is the last entry's scope, counted or not; the Chain is all of them, in order.
func TestAreaAndChain(t *testing.T) {
	for _, x := range []struct {
		l    []api.Entry
		area int
	}{{nil, 0}, {list(), 0}, {list(in(1)), 1}, {list(in(1), at(0)), 0}, {list(in(2), in(1)), 1}, {list(in(1), in(2), at(1)), 1}, {append(deep(5), in(2)), 2}} {
		for op := range uint8(13) {
			r := begins(t, planned(3), regs(), x.l, api.Call{Op: op, R: 9, H: 9, V: 9})
			if r.Area != x.area || !slices.Equal(r.Chain, x.l) {
				t.Errorf("of the Op %d, with %v: Area %d, Chain %v", op, x.l, r.Area, r.Chain)
			}
		}
	}
}

// P13.3, R1: each Op, with numbers from all around, held against the plain one.
func TestEachCall(t *testing.T) {
	numbers := append(near(), math.MaxInt, math.MinInt, 1<<32, 1<<32+1)
	own := []uint64{handle(1, 3, 320), handle(2, 0, 8), 0, math.MaxUint64}
	lists := [][]api.Entry{nil, list(in(1)), list(in(2), at(0)), list(in(1), in(2), at(1)), deep(5), deep(6)}
	for op := range uint8(14) {
		for _, n := range numbers {
			for reg := range uint8(6) {
				for _, l := range lists {
					begins(t, planned(3), own, l, api.Call{Op: op, R: reg, H: reg, V: reg, A: n})
					begins(t, planned(3), own, l, api.Call{Op: op, H: reg, V: 5 - reg, A: 1, B: n})
					begins(t, planned(3), own, l, api.Call{Op: op, R: 3, H: reg, V: reg, A: n % 4, C: n})
				}
			}
		}
	}
}

// P13.3: calls, registers and entries from everywhere, by chance with a seed.
func TestRandomCalls(t *testing.T) {
	chance := rand.New(rand.NewSource(13))
	small := func() int {
		if l := append(far(), near()...); chance.Intn(4) == 0 {
			return l[chance.Intn(len(l))]
		}
		return chance.Intn(9)
	}
	handles := numbers()
	for range 200000 {
		p := api.Plan{Scopes: 1 + chance.Intn(8), Threads: 1 + chance.Intn(4), Immortal: 8 * chance.Intn(257), Heap: 8 * chance.Intn(1025)}
		var own []uint64
		for range 4 {
			own = append(own, handles[chance.Intn(len(handles))])
		}
		var l []api.Entry
		for range chance.Intn(7) {
			l = append(l, api.Entry{Scope: chance.Intn(p.Scopes), Counted: chance.Intn(3) > 0})
		}
		c := api.Call{Op: uint8(chance.Intn(13)), R: uint8(chance.Intn(5)), H: uint8(chance.Intn(5)), V: uint8(chance.Intn(5)), A: small(), B: small(), C: small()}
		begins(t, p, own, l, c)
	}
}

// R6: what the call does not name, and what is of others alone, changes nothing of how it begins.
func TestOthersDoNotMatter(t *testing.T) {
	for op := range uint8(13) {
		for a := range 4 {
			l, c := list(in(1), at(2)), api.Call{Op: op, R: 0, H: 1, V: 2, A: a}
			own := []uint64{5, handle(1, 0, 320), handle(0, 0, 256), 6}
			r := begins(t, planned(3), own, l, c)
			for _, n := range numbers() {
				if o := begins(t, planned(3), []uint64{n, own[1], own[2], n}, l, c); !same(o, r) {
					t.Fatalf("with other registers %v begins as %v; want %v", c, o, r)
				}
			}
			for _, p := range []api.Plan{{Scopes: 3, Threads: 1}, {Scopes: 3, Threads: 4, Immortal: 2048, Heap: 8192}} {
				if o := begins(t, p, own, l, c); !same(o, r) {
					t.Fatalf("of %v %v begins as %v; want %v", p, c, o, r)
				}
			}
		}
	}
}

// R7: what becomes of what was handed to Of changes no Run, and what becomes of a Run changes neither that nor another one.
func TestBegunIsOwn(t *testing.T) {
	for op := range uint8(13) {
		own, l := regs(), append(list(in(1), in(2)), in(9))[:2]
		c := api.Call{Op: op, R: 0, H: 1, V: 2, A: 1}
		first := Of(planned(3), own, l, c)
		second := Of(planned(3), own, l, c)
		want := plainOf(planned(3), regs(), list(in(1), in(2)), c)
		first.Chain[0], first.Chain[1] = at(7), at(8)
		first.Chain = append(first.Chain, at(6))
		if !slices.Equal(l[:3], list(in(1), in(2), in(9))) || !slices.Equal(own, regs()) {
			t.Fatalf("the Op %d: what was handed in became %v, %v", op, l[:3], own)
		}
		if !same(second, want) {
			t.Fatalf("the Op %d: the other one became %v; want %v", op, second, want)
		}
		l[0], l[1], own[0], own[1], own[2] = at(5), at(5), 5, 5, 5
		if !same(second, want) {
			t.Fatalf("the Op %d: what was told became %v; want %v", op, second, want)
		}
		if first.Chain[0] != at(7) || first.Chain[1] != at(8) {
			t.Fatalf("the Op %d: what the caller wrote became %v", op, first.Chain)
		}
	}
}

// spoil writes into each row of a Run, and into the room behind it.
func spoil(r api.Run) {
	for _, l := range [][]int{r.List, r.Said, r.Answer.Said} {
		for i := range l[:cap(l)] {
			l[:cap(l)][i] = -77
		}
	}
	for i := range r.Chain[:cap(r.Chain)] {
		r.Chain[:cap(r.Chain)][i] = at(-77)
	}
}

// R7: what becomes of a Run that was handed to Tell changes none that was told, and what becomes of one that was told changes neither that nor another one.
func TestToldIsOwn(t *testing.T) {
	want := full()
	want.Done, want.Point, want.Answer = true, true, api.Answer{Code: api.ErrHeld, N: 3, Said: []int{18, 19}}
	r := full()
	first, second := Tell(r, api.ErrHeld, 3), Tell(r, api.ErrHeld, 3)
	spoil(first)
	if !same(r, full()) {
		t.Errorf("what was handed in became %v", r)
	}
	if !same(second, want) {
		t.Errorf("the other one became %v; want %v", second, want)
	}
	spoil(r)
	if !same(second, want) {
		t.Errorf("what was told became %v; want %v", second, want)
	}
}

// R7: what was said stands twice in what is told, and each is its own.
func TestSaidIsOwn(t *testing.T) {
	r := full()
	r.Said = append(r.Said, 20)[:2]
	told := Tell(r, api.OK, 0)
	told.Answer.Said[0] = -1
	told.Answer.Said = append(told.Answer.Said, -2)
	if !slices.Equal(told.Said, []int{18, 19}) || !slices.Equal(r.Said[:3], []int{18, 19, 20}) {
		t.Errorf("what was said became %v, of what was handed in %v", told.Said, r.Said[:3])
	}
	told.Said[1] = -3
	told.Said = append(told.Said, -4)
	if !slices.Equal(told.Answer.Said, []int{-1, 19, -2}) || !slices.Equal(r.Said[:3], []int{18, 19, 20}) {
		t.Errorf("what was answered became %v, of what was handed in %v", told.Answer.Said, r.Said[:3])
	}
}

// R1: of what is not asked for, too, nothing panics.
func TestNothingPanics(t *testing.T) {
	plans := []api.Plan{{}, {Scopes: -1}, {Scopes: math.MinInt}, {Scopes: math.MaxInt}, {Scopes: 9, Threads: 9}}
	lists := [][]api.Entry{nil, list(in(-1), at(math.MinInt)), slices.Repeat(list(in(math.MaxInt)), 40)}
	for _, p := range plans {
		for _, own := range [][]uint64{nil, {}, {24}, {24, 0, handle(1, 0, 320)}, slices.Repeat([]uint64{24}, 300)} {
			for _, l := range lists {
				for op := range uint8(13) {
					for _, n := range []uint8{0, 1, 2, 3, 4, 255} {
						r := Of(p, own, l, api.Call{Op: op, R: n, H: n, V: n, A: -1})
						if n >= 4 && (r.Hand != 0 || r.Val != 0) {
							t.Fatalf("Hand %d, Val %d of the register %d", r.Hand, r.Val, n)
						}
						spoil(Tell(r, api.ErrBad, math.MinInt))
					}
				}
				for _, h := range numbers() {
					if r, err := Check(p, l, h); err != api.OK && r != (api.Ref{}) {
						t.Fatalf("Check(%v, %v, %x) = %v, %d", p, l, h, r, err)
					}
				}
			}
		}
	}
}
