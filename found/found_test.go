package found

import (
	"math"
	"math/rand"
	"slices"
	"testing"

	"penfold/api"
	"penfold/arena"
	"penfold/ground"
)

// P14.2: the chapter's example.
func TestExample(t *testing.T) {
	m := madeOf(t, planned(2, 64))
	m.creates(8, 1)
	m.noCreate(8, api.ErrMany)
}

// P14.1: of each plan, each word of the arena, and all of the heap free.
func TestNew(t *testing.T) {
	for scopes := 1; scopes <= 8; scopes++ {
		for threads := 1; threads <= 4; threads++ {
			for _, immortal := range []int{0, 8, 16, 1024, 2040, 2048} {
				for _, heap := range []int{0, 8, 64, 4096, 8184, 8192} {
					madeOf(t, api.Plan{Scopes: scopes, Threads: threads, Immortal: immortal, Heap: heap})
				}
			}
		}
	}
}

// P14.1: what is laid down of one plan, written out.
func TestNewWrittenOut(t *testing.T) {
	a, g, err := New(api.Plan{Scopes: 3, Threads: 1, Immortal: 24, Heap: 40})
	if err != api.OK || a.Len() != 256 {
		t.Fatal(err)
	}
	for at := 0; at < 256; at += 8 {
		if w, _ := a.Word(at); w != map[int]uint64{0: 6, 8: 192, 16: 24}[at] {
			t.Errorf("the word at %d is %d", at, w)
		}
	}
	if free := g.Free(); !slices.Equal(free, []api.Extent{{At: 216, Size: 40}}) {
		t.Errorf("there is free %v", free)
	}
}

// P14.1: a plan that may not be, by each of its numbers, alone and all of them.
func TestNewOfNoPlan(t *testing.T) {
	wrong := func(p api.Plan) {
		t.Helper()
		if a, g, err := New(p); a != nil || g != nil || err != api.ErrArg {
			t.Errorf("New(%v) = %v, %v, %d; want nil, nil, 1", p, a, g, err)
		}
	}
	right := api.Plan{Scopes: 2, Threads: 1, Immortal: 16, Heap: 64}
	wrong(api.Plan{})
	for _, n := range append(far(), 0, 9, 10, 64) {
		p := right
		p.Scopes = n
		wrong(p)
	}
	for _, n := range append(far(), 0, 5, 8) {
		p := right
		p.Threads = n
		wrong(p)
	}
	for _, n := range append(far(), 1, 4, 7, 9, 12, 2044, 2047, 2049, 2056, 4096, 8192) {
		p := right
		p.Immortal = n
		wrong(p)
	}
	for _, n := range append(far(), 1, 4, 7, 9, 12, 8188, 8191, 8193, 8200, 65536) {
		p := right
		p.Heap = n
		wrong(p)
	}
	for _, n := range far() {
		wrong(api.Plan{Scopes: n, Threads: n, Immortal: n, Heap: n})
	}
}

// P14.1, R6, R7: what becomes of what one New told changes nothing of another's.
func TestNewIsOwn(t *testing.T) {
	p := planned(3, 64)
	first, second := madeOf(t, p), madeOf(t, p)
	first.creates(24, 1)
	first.creates(8, 2)
	first.puts(136, 77)
	second.holds()
	second.creates(8, 1)
	first.holds()
	madeOf(t, p)
	first.g.Free()[0] = api.Extent{At: 1, Size: 2}
	first.holds()
}

// tells asks what a scope is, and that asking changes nothing.
func (m made) tells(scope int, want api.Ctl, code api.Errno) {
	m.t.Helper()
	if c, err := Ctl(m.p, m.a, scope); c != want || err != code {
		m.t.Fatalf("of %v Ctl(%d) = %v, %d; want %v, %d", m.p, scope, c, err, want, code)
	}
	m.holds()
}

// P14.1: of a new arena the scope 0 is Live, and each other one Free; others there are none.
func TestCtl(t *testing.T) {
	for scopes := 1; scopes <= 8; scopes++ {
		m := madeOf(t, planned(scopes, 64))
		m.tells(0, api.Ctl{State: 2, Count: 1, Parent: -1}, api.OK)
		for n := 1; n < scopes; n++ {
			m.tells(n, api.Ctl{Parent: -1}, api.OK)
		}
		for _, n := range append(far(), scopes, scopes+1, 8, 9, 64) {
			m.tells(n, api.Ctl{}, api.ErrScope)
		}
	}
}

// P14.1: of each scope that is there its own word is told, whatever the others are.
func TestCtlOfEach(t *testing.T) {
	for n := 1; n < 8; n++ {
		m := madeOf(t, planned(8, 64))
		m.is(n, 2, 7-n%3, n-1, 16777215-n)
		for scope := 1; scope < 8; scope++ {
			want := api.Ctl{Parent: -1}
			if scope == n {
				want = api.Ctl{State: 2, Count: 7 - n%3, Parent: n - 1, Epoch: 16777215 - n}
			}
			m.tells(scope, want, api.OK)
		}
	}
}

// P14.1: what a scope may be is told, whatever that is.
func TestCtlTells(t *testing.T) {
	m := madeOf(t, planned(3, 64))
	for _, c := range []api.Ctl{
		{State: 0, Parent: -1}, {State: 0, Parent: -1, Epoch: 16777215},
		{State: 1, Parent: -1}, {State: 1, Parent: -1, Epoch: 1}, {State: 1, Parent: -1, Epoch: 16777215},
		{State: 2, Count: 1, Parent: -1, Epoch: 3}, {State: 2, Count: 7, Parent: 7, Epoch: 16777215}, {State: 2, Count: 2, Parent: 0, Epoch: 9},
		{State: 3, Parent: -1}, {State: 3, Parent: 0, Epoch: 5}, {State: 3, Parent: 7, Epoch: 16777215},
	} {
		for _, n := range []int{1, 2} {
			m.is(n, c.State, c.Count, c.Parent, c.Epoch)
			m.tells(n, c, api.OK)
		}
	}
}

// P14.1: a word that tells nothing is ErrScope, of the scope 0, too; the others' tell what they did.
func TestCtlTellsNothing(t *testing.T) {
	for _, w := range []uint64{
		word(1, 1, -1, 0), word(0, 1, -1, 0), word(1, 0, 0, 0), word(0, 0, 0, 7), // of Free and Idle
		word(2, 0, 0, 0), word(2, 8, 0, 0), word(2, 1, 8, 0), word(2, 255, 254, 0), // of Live
		word(3, 1, 0, 0), word(3, 0, 8, 0), // of Drain
		word(1, 0, -1, 16777216), 1 << 42, 1 << 63, math.MaxUint64,
	} {
		m := madeOf(t, planned(3, 64))
		for scope := 2; scope >= 0; scope-- {
			m.puts(64*scope, w)
			m.tells(scope, api.Ctl{}, api.ErrScope)
			if scope == 2 {
				m.tells(1, api.Ctl{Parent: -1}, api.OK)
				m.tells(0, api.Ctl{State: 2, Count: 1, Parent: -1}, api.OK)
			}
		}
	}
}

// P14.2: a scope is made of each size, rounded up: Idle, with its extent, and the others as they were.
func TestCreate(t *testing.T) {
	for _, heap := range []int{8, 64, 8192} {
		for _, size := range []int{1, 2, 7, 8, 9, 15, 16, 17, 33, 56, 57, 63, 64, 65, 4095, 4096, 8184, 8185, 8191, 8192} {
			m := madeOf(t, planned(3, heap))
			if (size+7)/8*8 > heap {
				m.noCreate(size, api.ErrGround)
				m.tells(1, api.Ctl{Parent: -1}, api.OK)
				continue
			}
			m.creates(size, 1)
			m.tells(1, api.Ctl{State: 1, Parent: -1}, api.OK)
			m.tells(2, api.Ctl{Parent: -1}, api.OK)
		}
	}
}

// P14.2: what one call makes of the words, written out.
func TestCreateWrittenOut(t *testing.T) {
	p := planned(3, 64)
	a, g, _ := New(p)
	for _, x := range []struct {
		size, block int
		words       []uint64
		free        []api.Extent
	}{
		{33, 64, []uint64{1, 208, 40, 0, 0, 0, 0, 0}, []api.Extent{{At: 248, Size: 24}}},
		{24, 128, []uint64{1, 248, 24, 0, 0, 0, 0, 0}, nil},
	} {
		if _, err := Step(p, a, g, makes(2, x.size)); err != api.OK {
			t.Fatal(err)
		}
		for i, want := range x.words {
			if w, _ := a.Word(x.block + 8*i); w != want {
				t.Errorf("the word at %d is %d; want %d", x.block+8*i, w, want)
			}
		}
		if free := g.Free(); !slices.Equal(free, x.free) {
			t.Errorf("there is free %v; want %v", free, x.free)
		}
	}
	Step(p, a, g, makes(3, 1))
	for i := range 8 {
		if w, _ := a.Word(64 + 8*i); w != map[int]uint64{0: 262144}[i] {
			t.Errorf("the word at %d is %d, of a scope that was unmade", 64+8*i, w)
		}
	}
	if free := g.Free(); !slices.Equal(free, []api.Extent{{At: 208, Size: 40}}) {
		t.Errorf("there is free %v", free)
	}
}

// P14.2: the least scope that is Free is taken, also one that was unmade.
func TestLeastIsTaken(t *testing.T) {
	for scopes := 2; scopes <= 8; scopes++ {
		for first := 1; first < scopes; first++ {
			for second := 1; second < scopes; second++ {
				m := madeOf(t, planned(scopes, 256))
				for n := 1; n < scopes; n++ {
					m.creates(8*n, n)
				}
				m.destroys(first)
				if second != first {
					m.destroys(second)
					m.creates(8, min(first, second))
				}
				m.creates(8, max(first, second))
				m.noCreate(8, api.ErrMany)
			}
		}
	}
}

// P14.2: who is entered, or drained, is not Free, nor is one whose word tells nothing.
func TestTakenAreLeftOut(t *testing.T) {
	m := madeOf(t, planned(6, 256))
	m.is(1, 2, 1, 0, 4)
	m.is(2, 3, 0, 0, 4)
	m.is(3, 1, 0, -1, 4)
	m.puts(64*4, word(1, 1, -1, 0))
	m.is(5, 0, 0, -1, 9)
	m.creates(16, 5)
	m.tells(5, api.Ctl{State: 1, Parent: -1, Epoch: 9}, api.OK)
	m.noCreate(8, api.ErrMany)
}

// P14.2: without a scope that is Free it is ErrMany, whatever the ground has room for; a plan of one scope has none.
func TestMany(t *testing.T) {
	for _, heap := range []int{0, 8, 8192} {
		m := madeOf(t, planned(1, heap))
		for _, size := range []int{1, 8, 9, 8192} {
			m.noCreate(size, api.ErrMany)
		}
	}
	for scopes := 2; scopes <= 8; scopes++ {
		m := madeOf(t, planned(scopes, 64))
		for n := 1; n < scopes; n++ {
			m.creates(8, n)
		}
		m.noCreate(8, api.ErrMany)
		m.noCreate(8192, api.ErrMany)
		m.destroys(scopes - 1)
		m.noCreate(8192, api.ErrGround)
		m.creates(1, scopes-1)
	}
}

// P14.2: a size that no free extent has room for is ErrGround, and the scope stays Free.
func TestGround(t *testing.T) {
	m := madeOf(t, planned(4, 0))
	for _, size := range []int{1, 8, 8192} {
		m.noCreate(size, api.ErrGround)
		m.tells(1, api.Ctl{Parent: -1}, api.OK)
	}
	m = madeOf(t, planned(4, 64))
	m.noCreate(65, api.ErrGround)
	m.noCreate(8192, api.ErrGround)
	m.creates(40, 1)
	m.noCreate(25, api.ErrGround)
	m.tells(2, api.Ctl{Parent: -1}, api.OK)
	m.creates(24, 2)
	m.noCreate(1, api.ErrGround)
	m.destroys(2)
	m.noCreate(32, api.ErrGround)
	m.tells(2, api.Ctl{Parent: -1, Epoch: 1}, api.OK)
	m.creates(17, 2)
	m.tells(2, api.Ctl{State: 1, Parent: -1, Epoch: 1}, api.OK)
}

// P14.2: free extents that have room together, but none alone.
func TestGroundInPieces(t *testing.T) {
	m := madeOf(t, planned(6, 80))
	for n := 1; n <= 5; n++ {
		m.creates(16, n)
	}
	for _, n := range []int{1, 3, 5} {
		m.destroys(n)
	}
	for _, size := range []int{17, 24, 32, 48} {
		m.noCreate(size, api.ErrGround)
	}
	m.tells(1, api.Ctl{Parent: -1, Epoch: 1}, api.OK)
	m.creates(16, 1)
	m.destroys(2)
	m.creates(32, 2) // the second one and the third one are one extent now
	m.noCreate(17, api.ErrGround)
	m.creates(9, 3)
	m.noCreate(1, api.ErrGround)
}

// P14.2: the first free extent that is great enough is carved, also if one behind it fits better.
func TestFirstFit(t *testing.T) {
	m := madeOf(t, planned(8, 128))
	for n, size := range []int{8, 40, 8, 16, 8} {
		m.creates(size, n+1)
	}
	m.destroys(2)
	m.destroys(4)
	m.creates(16, 2)
	m.creates(24, 4)
	m.creates(9, 6)
}

// P14.2: whatever stood in the other words, PtTop and PtPortal of what is made are 0, and no other word than these, PtCtl and its extent's two is written; of what is unmade PtCtl and these two alone.
func TestOtherWords(t *testing.T) {
	m := madeOf(t, planned(3, 64))
	for at := range 8 * 3 {
		if at%8 >= 3 {
			m.puts(8*at, uint64(7000+at))
		}
	}
	for at := 192; at < m.a.Len(); at += 8 {
		m.puts(at, uint64(9000+at))
	}
	m.holds()
	m.creates(24, 1)
	m.creates(16, 2)
	if top, _ := m.a.Word(64 + 24); top != 0 {
		t.Errorf("PtTop of what is made is %d", top)
	}
	if portal, _ := m.a.Word(128 + 32); portal != 0 {
		t.Errorf("PtPortal of what is made is %d", portal)
	}
	for at := range 8 * 3 {
		if at%8 >= 3 {
			m.puts(8*at, uint64(5000+at))
		}
	}
	m.destroys(1)
	m.destroys(2)
	m.creates(64, 1)
}

// P14.2: only a scope that is Idle is unmade; one that is not is as it was.
func TestDestroy(t *testing.T) {
	m := madeOf(t, planned(3, 64))
	m.noDestroy(1, api.ErrScope)
	m.creates(24, 1)
	m.noDestroy(2, api.ErrScope)
	m.creates(8, 2)
	for parent := -1; parent <= 7; parent++ {
		for count := 1; count <= 7; count++ {
			m.is(1, 2, count, parent, 5)
			m.noDestroy(1, api.ErrInUse)
		}
		m.is(1, 3, 0, parent, 5)
		m.noDestroy(1, api.ErrInUse)
		m.tells(1, api.Ctl{State: 3, Parent: parent, Epoch: 5}, api.OK)
	}
	m.is(1, 1, 0, -1, 6)
	m.destroys(1)
	m.tells(1, api.Ctl{Parent: -1, Epoch: 7}, api.OK)
	m.noDestroy(1, api.ErrScope)
	m.destroys(2)
	m.noDestroy(2, api.ErrScope)
}

// P14.2: what is unmade is the scope A, of each number, and its ground is whole again with what is beside it.
func TestDestroyEach(t *testing.T) {
	for scopes := 2; scopes <= 8; scopes++ {
		for first := 1; first < scopes; first++ {
			m := madeOf(t, planned(scopes, 8192))
			for n := 1; n < scopes; n++ {
				m.creates(100*n, n)
			}
			for i := range scopes - 1 {
				m.destroys((first-1+i)%(scopes-1) + 1)
			}
			m.creates(8192, 1)
		}
	}
}

// P14.2: the Epoch stays when a scope is made, and is one more when it is unmade; behind the greatest one comes 0.
func TestEpoch(t *testing.T) {
	for _, x := range []struct{ epoch, next int }{{0, 1}, {1, 2}, {255, 256}, {65535, 65536}, {16777213, 16777214}, {16777214, 16777215}, {16777215, 0}} {
		m := madeOf(t, planned(2, 64))
		m.is(1, 0, 0, -1, x.epoch)
		m.creates(8, 1)
		m.tells(1, api.Ctl{State: 1, Parent: -1, Epoch: x.epoch}, api.OK)
		m.destroys(1)
		m.tells(1, api.Ctl{Parent: -1, Epoch: x.next}, api.OK)
		m.noDestroy(1, api.ErrScope)
		m.creates(16, 1)
		m.tells(1, api.Ctl{State: 1, Parent: -1, Epoch: x.next}, api.OK)
	}
	m := madeOf(t, planned(2, 64))
	for epoch := range 300 {
		m.creates(8, 1)
		m.tells(1, api.Ctl{State: 1, Parent: -1, Epoch: epoch}, api.OK)
		m.destroys(1)
	}
}

// P14.2: what a Run has otherwise, that of a call that is refused, too, is in what is told as it was.
func TestToldWhole(t *testing.T) {
	m := madeOf(t, planned(2, 64))
	for _, x := range []struct {
		op   uint8
		n    int
		want api.Answer
	}{
		{3, 1, api.Answer{Code: api.ErrScope}}, {2, 65, api.Answer{Code: api.ErrGround}}, {2, 8, api.Answer{N: 1}}, {2, 8, api.Answer{Code: api.ErrMany}}, {3, 1, api.Answer{}},
	} {
		told := m.steps(full(x.op, x.n))
		if !told.Done || !told.Point || told.Answer.Code != x.want.Code || told.Answer.N != x.want.N || !slices.Equal(told.Answer.Said, []int{18, 19}) || told.Pc != 1 || told.Hand != 9 {
			t.Errorf("of the call %d of %d is told %v", x.op, x.n, told)
		}
	}
}

// P14.2, R2: a Run that is Done is refused, and so is one whose Pc is another one, or of another call; no word and no free extent changes.
func TestRefusedSteps(t *testing.T) {
	m := madeOf(t, planned(4, 64))
	m.creates(24, 1)
	m.creates(8, 2)
	m.is(2, 2, 1, 0, 0)
	for _, op := range []uint8{2, 3} {
		for _, n := range append(far(), 0, 1, 2, 3, 4, 8) {
			done, told := makes(op, n), full(op, n)
			done.Done, told.Done = true, true
			m.refuses(done)
			m.refuses(told)
			for pc := -2; pc <= 30; pc++ {
				r, f := makes(op, n), full(op, n)
				r.Pc, f.Pc = pc, pc
				if pc != 1 {
					m.refuses(r)
					m.refuses(f)
				}
				r.Done = true
				m.refuses(r)
			}
			for _, pc := range far() {
				r := makes(op, n)
				r.Pc = pc
				m.refuses(r)
			}
		}
	}
	m.refuses(api.Run{})
	for op := range 256 {
		if op != 2 && op != 3 {
			m.refuses(makes(uint8(op), 1))
			m.refuses(full(uint8(op), 1))
		}
	}
	m.creates(16, 3)
	m.destroys(1)
}

// P14.2: what was told once is done: it is not made again, and nor does it keep the Run that was handed in from being made.
func TestToldTwice(t *testing.T) {
	m := madeOf(t, planned(4, 64))
	for _, r := range []api.Run{makes(2, 8), makes(2, 65), makes(3, 3), full(2, 16), full(3, 1)} {
		told := m.steps(r)
		m.refuses(told)
		m.refuses(told)
		m.steps(r)
	}
}

// P14.2, R1: numbers that no call that begins has are refused as what they are: no size of a ground, and no scope that is made.
func TestWildNumbers(t *testing.T) {
	m, alone := madeOf(t, planned(3, 8192)), madeOf(t, planned(1, 8192))
	m.creates(8, 1)
	for _, n := range append(far(), 0, 8193, 8200) {
		if told := alone.steps(makes(2, n)); told.Answer.Code != api.ErrMany {
			t.Errorf("without a scope that is Free create of %d is told %v", n, told.Answer)
		}
		if told := m.steps(makes(2, n)); told.Answer.Code != api.ErrGround || told.Answer.N != 0 {
			t.Errorf("create of %d is told %v", n, told.Answer)
		}
	}
	for _, n := range append(far(), 3, 4, 8, 9, 64) {
		if told := m.steps(makes(3, n)); told.Answer.Code != api.ErrScope {
			t.Errorf("destroy of %d is told %v", n, told.Answer)
		}
	}
	if told := m.steps(makes(3, 0)); told.Answer.Code != api.ErrInUse {
		t.Errorf("destroy of 0 is told %v", told.Answer)
	}
}

// R1: of plans that may not be, and of an arena of another plan, all ends, and nothing panics.
func TestNothingPanics(t *testing.T) {
	plans := []api.Plan{{}, {Scopes: 9, Threads: 9}, planned(8, 8192), planned(1, 0)}
	for _, n := range far() {
		plans = append(plans, api.Plan{Scopes: n, Threads: n, Immortal: n, Heap: n}, api.Plan{Scopes: n, Threads: 1}, api.Plan{Scopes: 2, Threads: 1, Heap: n})
	}
	for _, p := range plans {
		for _, bytes := range []int{0, 8, 64, 72, 208, 65536} {
			a, _ := arena.New(bytes)
			g, _ := ground.New(0, bytes)
			for _, n := range append(far(), 0, 1, 2, 8) {
				if c, err := Ctl(p, a, n); err != api.OK && (c != api.Ctl{} || err != api.ErrScope) {
					t.Fatalf("Ctl(%v, %d bytes, %d) = %v, %d", p, bytes, n, c, err)
				}
				for _, op := range []uint8{2, 3} {
					if told, err := Step(p, a, g, makes(op, n)); err != api.OK && !same(told, api.Run{}) {
						t.Fatalf("Step(%v, %d bytes, %d of %d) = %v, %d", p, bytes, op, n, told, err)
					}
				}
			}
		}
	}
}

// P14.2: long rows of calls, by chance with a seed, with scopes that are entered and drained in between: each word and each free extent behind each of them.
func TestLongRows(t *testing.T) {
	met := map[api.Errno]int{}
	for seed := range 200 {
		chance := rand.New(rand.NewSource(int64(seed)))
		p := api.Plan{Scopes: 1 + seed%8, Threads: 1, Immortal: 8 * chance.Intn(4), Heap: 8 * chance.Intn(40)}
		m := madeOf(t, p)
		for range 200 {
			scope := chance.Intn(p.Scopes)
			if w := m.x.words[8*scope]; scope > 0 && w%4 != 0 && chance.Intn(4) == 0 {
				states := []uint64{word(1, 0, -1, 0), word(2, 1+chance.Intn(7), chance.Intn(p.Scopes), 0), word(3, 0, 0, 0)}
				m.puts(64*scope, states[chance.Intn(3)]+w/262144*262144)
			}
			r := makes(2, 1+chance.Intn(p.Heap+9))
			if chance.Intn(2) == 0 {
				r = makes(3, scope)
			}
			met[m.steps(r).Answer.Code]++
		}
	}
	for _, code := range []api.Errno{api.OK, api.ErrScope, api.ErrInUse, api.ErrMany, api.ErrGround} {
		if met[code] == 0 {
			t.Errorf("these rows did not meet the code %d", code)
		}
	}
}
