package take

import (
	"math"
	"slices"
	"testing"

	"penfold/api"
	"penfold/arena"
	"penfold/found"
	"penfold/thing"
)

// pcs are those of an allocation, in the order in which it comes to them.
var pcs = []int{5, 2, 3, 4}

// P15.1: the chapter's example.
func TestExample(t *testing.T) {
	m := madeOf(t, planned(2, 64, 64))
	m.takes(0, 0, 0, 0, 16)
}

// P15.1: the whole Run behind each step, and each word that is not 0, written out.
func TestWrittenOut(t *testing.T) {
	p := api.Plan{Scopes: 3, Threads: 1, Immortal: 16, Heap: 88}
	a, g, _ := found.New(p)
	for range 2 {
		found.Step(p, a, g, api.Run{Call: api.Call{Op: 2, A: 40}, Pc: 1})
	}
	a.Put(128, 2+4*3+1024*1+262144*5) // the scope 2 is Live, three are within, it was entered from 0, its epoch is 5
	call := api.Call{Op: 7, R: 3, A: 1, B: 9, C: 6}
	want := api.Run{Call: call, Pc: 5, Area: 2, Chain: []api.Entry{{Scope: 2, Counted: true}}}
	r := want
	check := func() {
		t.Helper()
		var err api.Errno
		if r, err = Step(p, a, r); err != api.OK || !same(r, want) {
			t.Fatalf("the Run is %v, %d; want %v, 0", r, err, want)
		}
	}
	words := map[int]uint64{0: 6, 8: 192, 16: 16, 64: 1, 72: 208, 80: 40, 128: 2 + 12 + 1024 + 1310720, 136: 248, 144: 40}
	checkWords := func() {
		t.Helper()
		for at := 0; at < a.Len(); at += 8 {
			if w, _ := a.Word(at); w != words[at] {
				t.Fatalf("the word at %d is %d; want %d", at, w, words[at])
			}
		}
	}
	checkWords()
	want.Next, want.Pc = 5, 2
	check()
	checkWords()
	want.At, want.Pc = 248, 3
	check()
	checkWords()
	want.Word, want.Pc = 40, 4
	check()
	checkWords()
	want.Done, want.Point, want.Answer.N = true, true, 31+2*16777216+5*4294967296
	check()
	words[152], words[248], words[256] = 40, 5+1*4294967296+6*1099511627776+165*72057594037927936, 2+5*256
	checkWords()
}

// P15.1: one behind the other, of each number of slots, and of bytes that are and are no multiple of 8, in the immortal scope and in another one, till nothing more has room.
func TestOneBehindTheOther(t *testing.T) {
	for _, bytes := range []int{0, 1, 7, 8, 9, 15, 16, 17, 63, 64, 65, 504, 505, 511, 512} {
		m := madeOf(t, planned(3, 1024, 1024))
		m.makes(8)
		other := m.lives(1016, 3)
		for i, scope := range []int{0, other} {
			place, end := []int{192, 1224}[i], []int{1216, 2240}[i]
			epoch := []int{0, 3}[i]
			for turn := 0; ; turn++ {
				slots := turn % 7
				size := 8 * wordsOf(slots, bytes)
				if place+size > end {
					m.full(scope, slots, bytes, turn%8)
					break
				}
				m.takes(scope, slots, bytes, turn%8, place/8+scope*16777216+epoch*4294967296)
				place += size
			}
		}
	}
}

// P15.1, P15.2: each number of slots with each number of bytes: what stands is an object, of that size, those slots, all 0, that tag, not finalized, of that scope and epoch.
func TestEachObject(t *testing.T) {
	for slots := range 7 {
		for bytes := range 513 {
			if bytes > 40 && bytes < 500 && bytes%37 != 0 {
				continue
			}
			m := madeOf(t, planned(2, 0, 8+8*72))
			m.lives(8+8*72, 9)
			m.puts(64+24, 8) // a word of it is used
			tag := (slots + bytes) % 8
			m.takes(1, slots, bytes, tag, 136/8+16777216+9*4294967296)
			want := api.Head{Size: wordsOf(slots, bytes), Slots: slots, Tag: tag, Scope: 1, Epoch: 9}
			if h, err := thing.At(m.a, 136); h != want || err != api.OK {
				t.Fatalf("the object of %d, %d, %d has the head %v, %d; want %v", slots, bytes, tag, h, err, want)
			}
			for n := range slots {
				at, err := thing.Slot(m.a, 136, n)
				if w, _ := m.a.Word(at); at != 152+8*n || w != 0 || err != api.OK {
					t.Fatalf("the slot %d is at %d, %d, and %d", n, at, err, w)
				}
			}
			l, err := thing.Walk(m.a, 136, 8*want.Size)
			if !slices.Equal(l, []int{136}) || err != api.OK {
				t.Fatalf("walked are %v, %d", l, err)
			}
		}
	}
}

// P15.1: in each scope of each plan, its own block, extent and number, whatever the others are.
func TestEachScope(t *testing.T) {
	for scopes := 1; scopes <= 8; scopes++ {
		for mine := range scopes {
			m := madeOf(t, planned(scopes, 24, 24*scopes))
			for n := 1; n < scopes; n++ {
				m.lives(24, 10+n)
			}
			at, epoch := 64*scopes, 0
			if mine > 0 {
				at, epoch = at+24*mine, 10+mine
			}
			m.full(mine, 2, 0, 7)
			m.takes(mine, 1, 0, 7, at/8+mine*16777216+epoch*4294967296)
			m.full(mine, 0, 0, 0)
			for n := range scopes {
				if n != mine {
					m.takes(n, 0, 8, 1, []int{8 * scopes, 8*scopes + 3*n + n*16777216 + (10+n)*4294967296}[min(n, 1)])
				}
			}
		}
	}
}

// P15.1: each tag.
func TestTags(t *testing.T) {
	m := madeOf(t, planned(2, 256, 256))
	m.lives(256, 0)
	for tag := range 8 {
		m.takes(0, tag%3, 0, tag, []int{16, 18, 21, 25, 27, 30, 34, 36}[tag])
		m.takes(1, 0, 1, tag, 48+3*tag+16777216)
	}
}

// P15.1: the epoch of the scope is that of the head, and of the handle; the greatest one, too.
func TestEpochs(t *testing.T) {
	for _, epoch := range []int{0, 1, 2, 255, 256, 65535, 65536, 8388608, 16777214, 16777215} {
		for n := 1; n < 8; n++ {
			m := madeOf(t, planned(8, 16, 8192))
			for range n {
				m.makes(1000)
			}
			m.is(n, 2, 7, n-1, epoch)
			place := 528 + 1000*(n-1)
			for i := range 3 {
				m.takes(n, 1, 5, 2, place/8+4*i+n*16777216+epoch*4294967296)
			}
			if h, err := thing.At(m.a, place); h != (api.Head{Size: 4, Slots: 1, Tag: 2, Scope: n, Epoch: epoch}) || err != api.OK {
				t.Fatalf("the head is %v, %d", h, err)
			}
		}
	}
}

// P15.1: what fits what is left to the byte is let in, what is greater by a word is not, and changes nothing; nothing of what is refused keeps a smaller one out.
func TestToTheByte(t *testing.T) {
	for used := 0; used <= 48; used += 8 {
		for _, x := range []struct{ slots, bytes int }{{0, 0}, {0, 1}, {0, 8}, {1, 0}, {6, 0}, {0, 9}, {3, 20}, {6, 512}} {
			size := 8 * wordsOf(x.slots, x.bytes)
			m := madeOf(t, planned(2, used+size, used+size))
			m.lives(used+size, 1)
			for scope, at := range []int{128, 128 + used + size} {
				m.puts(64*scope+24, uint64(used)+8)
				m.full(scope, x.slots, x.bytes, 1)
				m.puts(64*scope+24, uint64(used))
				if x.bytes <= 504 {
					m.full(scope, x.slots, x.bytes+8, 1)
				}
				if x.slots < 6 {
					m.full(scope, x.slots+1, x.bytes, 1)
				}
				m.takes(scope, x.slots, x.bytes, 1, (at+used)/8+scope*(16777216+4294967296))
				m.full(scope, 0, 0, 0)
			}
		}
	}
}

// P15.1: a scope of which nothing is left, or less than the least object has, and an immortal scope of 0 or 8 bytes, have room for none.
func TestNothingLeft(t *testing.T) {
	for _, immortal := range []int{0, 8} {
		for _, heap := range []int{8, 16, 64} {
			m := madeOf(t, planned(2, immortal, heap))
			m.lives(heap, 2)
			for range 2 {
				for slots := range 7 {
					m.full(0, slots, 0, 1)
					m.full(0, slots, 512, 1)
				}
			}
			left := heap
			for ; left >= 16; left -= 16 {
				m.takes(1, 0, 0, 3, (128+immortal+heap-left)/8+16777216+2*4294967296)
			}
			m.full(1, 0, 0, 3)
			m.full(1, 6, 512, 3)
		}
	}
	m := madeOf(t, planned(1, 0, 0))
	m.full(0, 0, 0, 0)
	m = madeOf(t, planned(8, 2048, 8192))
	for i := range 128 {
		m.takes(0, 0, 0, 0, 64+2*i)
	}
	m.full(0, 0, 0, 0)
}

// P15.1: each step alone sees the word that it loads as it is then, as whatever number, and none of the three changes a word.
func TestEachLoad(t *testing.T) {
	for _, x := range []uint64{0, 1, 7, 8, 128, 65535, 65536, 1 << 32, 1<<63 - 8, 1<<63 - 1, 1 << 63, 1<<63 + 8, math.MaxUint64 - 7, math.MaxUint64} {
		m := madeOf(t, planned(3, 64, 64))
		for scope := range 3 {
			m.puts(64*scope+8, x)
			m.puts(64*scope+16, x+1)
			if r := m.steps(dense(2, scope, 1, 1, 1)); r.At != int(x) {
				t.Fatalf("PtBase %d is told as %d", x, r.At)
			}
			if r := m.steps(dense(3, scope, 1, 1, 1)); r.Word != x+1 {
				t.Fatalf("PtBudget %d is told as %d", x+1, r.Word)
			}
			m.steps(bleak(2, scope, 0, 0, 0))
			m.steps(bleak(3, scope, 0, 0, 0))
		}
	}
	m := madeOf(t, planned(3, 64, 64))
	for epoch := range 300 {
		m.is(1, 2, 1+epoch%7, epoch%8-1, epoch*55555%16777216)
		m.is(2, 2, 7-epoch%7, 7-epoch%8, epoch*77777%16777216)
		for _, scope := range []int{0, 1, 2} {
			m.steps(dense(5, scope, 1, 1, 1))
			m.steps(bleak(5, scope, 0, 0, 0))
		}
	}
}

// P15.1: the last step goes by what the Run has met, not by what stands in the arena then, but for PtTop.
func TestClaimOfWhatWasMet(t *testing.T) {
	m := madeOf(t, planned(2, 256, 256))
	n := m.lives(256, 4)
	r := m.begins(n, 1, 0, 5)
	for range 3 {
		r = m.steps(r)
	}
	m.is(n, 2, 2, 0, 5)
	m.puts(64+8, 128)
	m.puts(64+16, 8)
	m.puts(64+24, 40)
	if r = m.steps(r); r.Answer.N != (384+40)/8+16777216+4*4294967296 {
		t.Fatalf("it is told %v", r.Answer)
	}
	for scope := range 2 {
		for most := range uint64(64) {
			r := dense(4, scope, 1, 0, 5)
			r.Word = most
			if told := m.steps(r); told.Answer.Code == api.OK {
				m.puts(64*scope+24, most)
			}
			m.puts(64*scope+24, most/16*8)
		}
	}
}

// P15.1: what is not told stays, of a Run whose fields are all other than zero; Point is so of the last one alone, whatever it was.
func TestNotToldStays(t *testing.T) {
	m := madeOf(t, planned(2, 256, 256))
	m.lives(256, 4)
	for scope := range 2 {
		r := dense(5, scope, 2, 3, 4)
		for i := range 4 {
			r.Point = true
			r = m.steps(r)
			if r.Point != (i == 3) || r.Done != (i == 3) || r.Hand != 9 || r.Val != 10 || r.Top != 14 || r.Op != 17 || r.N != 20 || !r.Held || !slices.Equal(r.List, []int{15, 16}) || !slices.Equal(r.Said, []int{18, 19}) {
				t.Fatalf("behind %d steps it is %v", i+1, r)
			}
			if i < 3 && (r.Answer.Code != 21 || r.Answer.N != 22 || !slices.Equal(r.Answer.Said, []int{23})) {
				t.Fatalf("behind %d steps its answer is %v", i+1, r.Answer)
			}
		}
		if r.Answer.Code != api.OK || !slices.Equal(r.Answer.Said, []int{18, 19}) {
			t.Fatalf("its answer is %v", r.Answer)
		}
		full := dense(4, scope, 6, 512, 4)
		if told := m.steps(full); told.Answer.Code != api.ErrMemory || told.Answer.N != 0 || !slices.Equal(told.Answer.Said, []int{18, 19}) {
			t.Fatalf("its answer is %v", told.Answer)
		}
	}
}

// R7: who is told may write into the answer's row: the Run handed in does not see it.
func TestAnswerIsOwn(t *testing.T) {
	m := madeOf(t, planned(1, 256, 0))
	for _, slots := range []int{1, 6} {
		r := dense(4, 0, slots, 0, 0)
		r.At = 64
		told := m.steps(r)
		told.Answer.Said[0] = 99
		if !slices.Equal(r.Said, []int{18, 19}) || !slices.Equal(r.Answer.Said, []int{23}) || !slices.Equal(told.Said, []int{18, 19}) {
			t.Fatalf("it is %v, and told is %v", r, told)
		}
	}
}

// R6: a Run that was handed in may be handed in again: what is told hangs on it and on the arena alone.
func TestHandedInAgain(t *testing.T) {
	m := madeOf(t, planned(2, 64, 64))
	r := m.begins(0, 0, 0, 0)
	for range 3 {
		m.steps(r)
		r = m.steps(r)
	}
	for i := range 4 {
		if told := m.steps(r); told.Answer.N != 16+2*i {
			t.Fatalf("it is told %v", told.Answer)
		}
	}
	if told := m.steps(r); told.Answer.Code != api.ErrMemory {
		t.Fatalf("it is told %v", told.Answer)
	}
}

// P15.1, R2: a Run that is Done is refused, and so is one whose Pc is none of the four, or of another call; no word changes.
func TestRefusedSteps(t *testing.T) {
	m := madeOf(t, planned(2, 64, 64))
	m.lives(64, 1)
	for scope := range 2 {
		for _, of := range []func(pc, area, slots, bytes, tag int) api.Run{dense, bleak} {
			for pc := -3; pc <= 40; pc++ {
				r := of(pc, scope, 0, 0, 0)
				if !slices.Contains(pcs, pc) {
					m.refuses(r)
				}
				r.Done = true
				m.refuses(r)
			}
			for _, pc := range far() {
				m.refuses(of(pc, scope, 0, 0, 0))
			}
			for op := range 256 {
				for _, pc := range pcs {
					r := of(pc, scope, 0, 0, 0)
					r.Call.Op = uint8(op)
					if op != 7 {
						m.refuses(r)
					}
				}
			}
		}
	}
	m.refuses(api.Run{})
	m.takes(0, 0, 0, 0, 16)
}

// R1, R2: an Area that is no scope of the plan is refused by each step.
func TestNoArea(t *testing.T) {
	for scopes := 1; scopes <= 8; scopes++ {
		m := madeOf(t, planned(scopes, 64, 64))
		for _, area := range append(far(), scopes, scopes+1, 8, 9, 64, 1024) {
			for _, pc := range pcs {
				m.refuses(dense(pc, area, 0, 0, 0))
				m.refuses(bleak(pc, area, 0, 0, 0))
				r := dense(pc, area, 0, 0, 0)
				r.At = 64 * scopes
				m.refuses(r)
			}
		}
		m.takes(0, 0, 0, 0, 8*scopes)
	}
}

// R1, R2: slots, bytes and tags that may not be are refused where an object is claimed; the steps ahead of that do not look at them.
func TestNoObject(t *testing.T) {
	m := madeOf(t, planned(2, 2048, 8192))
	m.lives(8192, 1)
	wrong := func(slots, bytes, tag int) {
		t.Helper()
		for scope := range 2 {
			for _, pc := range []int{5, 2, 3} {
				m.steps(dense(pc, scope, slots, bytes, tag))
			}
			for _, most := range []uint64{0, 48, 2048, 1 << 62, math.MaxInt, math.MaxUint64} {
				r := dense(4, scope, slots, bytes, tag)
				r.Word = most
				m.refuses(r)
				r = bleak(4, scope, slots, bytes, tag)
				r.Word, r.At = most, 128
				m.refuses(r)
			}
		}
	}
	for _, n := range append(far(), 7, 8, 64, 256) {
		wrong(n, 0, 0)
		wrong(n, n, n)
	}
	for _, n := range append(far(), 513, 514, 520, 1024) {
		wrong(0, n, 0)
		wrong(6, n, 7)
	}
	for _, n := range append(far(), 8, 9, 255, 256) {
		wrong(0, 0, n)
		wrong(6, 512, n)
	}
	m.takes(1, 6, 512, 7, 2176/8+16777216+4294967296)
}

// R1, R2: of what no call meets nothing panics, and what is refused changes nothing: an epoch that may not be, and places that are none.
func TestNothingMet(t *testing.T) {
	m := madeOf(t, planned(2, 64, 64))
	m.lives(64, 1)
	for _, next := range []uint64{16777216, 16777217, 1 << 32, 1 << 62, 1 << 63, 1<<63 + 1, math.MaxUint64} {
		r := dense(4, 1, 0, 0, 0)
		r.Next = next
		m.refuses(r)
	}
	for _, at := range append(far(), 1, 7, 9, 129, 132, m.a.Len()-8, m.a.Len(), 65536) {
		r := dense(4, 1, 0, 0, 0)
		r.At = at
		m.refuses(r)
		r.Word = 15
		if told, err := Step(m.p, m.a, r); told.Answer.Code != api.ErrMemory || err != api.OK {
			t.Errorf("at %d it is told %v, %d", at, told, err)
		}
		m.holds()
	}
	for _, top := range []uint64{1, 4, 7, 1 << 63, math.MaxUint64 - 8, math.MaxUint64} {
		m.puts(64+24, top)
		told, err := Step(m.p, m.a, dense(4, 1, 0, 0, 0))
		if err != api.ErrArg && (told.Answer.Code != api.ErrMemory || err != api.OK) {
			t.Errorf("of PtTop %d it is told %v, %d", top, told, err)
		}
		m.holds()
	}
	m.puts(64, 2) // Live, and nobody within: it tells nothing
	m.refuses(dense(5, 1, 0, 0, 0))
}

// R1: of plans that may not be, and of an arena of another plan, all ends, nothing panics, and an error changes no byte.
func TestNothingPanics(t *testing.T) {
	plans := []api.Plan{{}, {Scopes: 9, Threads: 9}, planned(8, 2048, 8192), planned(1, 0, 0)}
	for _, n := range far() {
		plans = append(plans, api.Plan{Scopes: n, Threads: n, Immortal: n, Heap: n}, api.Plan{Scopes: n, Threads: 1}, api.Plan{Scopes: 2, Threads: 1, Heap: n})
	}
	for _, p := range plans {
		for _, bytes := range []int{0, 8, 16, 24, 32, 64, 72, 208, 1024} {
			for _, pc := range pcs {
				for _, area := range []int{0, 1, 7, 8, -1, math.MaxInt, math.MinInt} {
					for _, word := range []uint64{0, 16, 64, math.MaxUint64} {
						a, _ := arena.New(bytes)
						r := dense(pc, area, 0, 0, 0)
						r.Word, r.At = word, int(word)
						told, err := Step(p, a, r)
						if err != api.OK && (err != api.ErrArg || !same(told, api.Run{}) || !blank(a)) {
							t.Fatalf("Step(%v, %d bytes, %v) = %v, %d", p, bytes, r, told, err)
						}
					}
				}
			}
		}
	}
}

// blank tells whether all of an arena is 0.
func blank(a *arena.Arena) bool {
	for at := 0; at < a.Len(); at += 8 {
		if w, err := a.Word(at); w != 0 || err != api.OK {
			return false
		}
	}
	return true
}
