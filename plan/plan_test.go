package plan

import (
	"math"
	"math/rand"
	"testing"

	"penfold/api"
)

// immortals and heaps are some numbers of bytes that may be, both ends with them.
func immortals() []int { return []int{0, 8, 16, 24, 64, 72, 512, 1024, 2032, 2040, 2048} }
func heaps() []int {
	return []int{0, 8, 16, 24, 64, 72, 512, 2048, 2056, 4096, 8176, 8184, 8192}
}

// right are plans that may be, of each number of scopes and of threads: listed, not asked for.
func right() []api.Plan {
	var l []api.Plan
	for _, scopes := range []int{1, 2, 3, 4, 5, 6, 7, 8} {
		for _, threads := range []int{1, 2, 3, 4} {
			for _, immortal := range immortals() {
				for _, heap := range heaps() {
					l = append(l, api.Plan{Scopes: scopes, Threads: threads, Immortal: immortal, Heap: heap})
				}
			}
		}
	}
	return l
}

// never are numbers that no field of a plan may be.
func never() []int {
	l := []int{math.MinInt, math.MinInt + 1, math.MinInt + 4, math.MinInt + 7, math.MinInt + 8, math.MinInt + 9, math.MinInt + 16,
		math.MaxInt, math.MaxInt - 1, math.MaxInt - 6, math.MaxInt - 7, math.MaxInt - 8, math.MaxInt - 15}
	// With their upper bits lost these would be numbers that may be.
	for _, bits := range []int{16, 31, 32, 48, 62} {
		l = append(l, 1<<bits, 1<<bits+1, 1<<bits+8, -1<<bits, -1<<bits+1, -1<<bits+8)
	}
	return append(l, -1, -2, -3, -7, -8, -9, -16, -64, -2048, -8192, 8193, 8200, 16384)
}

// scopesNever are numbers of scopes that may not be; those of threads, and of both kinds of bytes, stand below.
func scopesNever() []int { return append(never(), 0, 9, 10, 16, 64, 256, 257, 2048, 8192) }

func threadsNever() []int { return append(never(), 0, 5, 6, 7, 8, 9, 16, 256, 257, 2048, 8192) }

func immortalsNever() []int {
	return append(never(), 1, 2, 3, 4, 5, 6, 7, 9, 12, 15, 17, 20, 63, 65, 1020, 2041, 2044, 2047, 2049, 2052, 2055, 2056, 2064, 4096, 8192)
}

func heapsNever() []int {
	return append(never(), 1, 2, 3, 4, 5, 6, 7, 9, 12, 15, 17, 20, 63, 65, 4100, 8185, 8188, 8191, 8196, 8199)
}

// wrong are plans that may not be: one field is wrong, or several are.
func wrong() []api.Plan {
	l := []api.Plan{{}, {Scopes: 1}, {Threads: 1}, {Immortal: 8, Heap: 8}, {Scopes: 9, Threads: 5, Immortal: 2056, Heap: 8200},
		{Scopes: -1, Threads: -1, Immortal: -8, Heap: -8}, {Scopes: 1, Threads: 1, Immortal: 4, Heap: 4},
		{Scopes: 4, Threads: 8, Immortal: 8192, Heap: 2048}, {Scopes: 8, Threads: 0, Immortal: 16, Heap: 12}}
	for _, base := range []api.Plan{{Scopes: 1, Threads: 1}, {Scopes: 2, Threads: 1, Immortal: 16, Heap: 64}, {Scopes: 8, Threads: 4, Immortal: 2048, Heap: 8192}} {
		l = append(l, changed(base, scopesNever(), func(p *api.Plan) *int { return &p.Scopes })...)
		l = append(l, changed(base, threadsNever(), func(p *api.Plan) *int { return &p.Threads })...)
		l = append(l, changed(base, immortalsNever(), func(p *api.Plan) *int { return &p.Immortal })...)
		l = append(l, changed(base, heapsNever(), func(p *api.Plan) *int { return &p.Heap })...)
	}
	return l
}

// changed are plans like base, of which one field is one of the numbers.
func changed(base api.Plan, numbers []int, field func(*api.Plan) *int) []api.Plan {
	var l []api.Plan
	for _, n := range numbers {
		p := base
		*field(&p) = n
		l = append(l, p)
	}
	return l
}

// kinds of what a byte of the arena may be.
const (
	kindRest     = "rest of a block"
	kindPart     = "part"
	kindImmortal = "immortal"
	kindHeap     = "heap"
)

// use is what a byte of the arena is for.
type use struct {
	kind               string
	scope, part, which int
}

// arena is what the document says of the arena, byte by byte, one behind the other.
func arena(p api.Plan) []use {
	var l []use
	for scope := 0; scope < p.Scopes; scope++ {
		for i := 0; i < 64; i++ {
			if i < 5*8 {
				l = append(l, use{kindPart, scope, i / 8, i % 8})
			} else {
				l = append(l, use{kindRest, scope, 0, i})
			}
		}
	}
	for i := 0; i < p.Immortal; i++ {
		l = append(l, use{kindImmortal, 0, 0, i})
	}
	for i := 0; i < p.Heap; i++ {
		l = append(l, use{kindHeap, 0, 0, i})
	}
	return l
}

// P5.1: what may be is Right.
func TestRightOfWhatMayBe(t *testing.T) {
	for _, p := range right() {
		if !Right(p) {
			t.Errorf("Right(%v) = false", p)
		}
	}
	for n := 0; n <= 8192; n += 8 {
		if p := (api.Plan{Scopes: 1, Threads: 1, Heap: n}); !Right(p) {
			t.Errorf("Right(%v) = false", p)
		}
		if p := (api.Plan{Scopes: 1, Threads: 1, Immortal: n}); Right(p) != (n <= 2048) {
			t.Errorf("Right(%v) = %v", p, Right(p))
		}
	}
}

// P5.1: what may not be is not Right, and all others tell ErrArg of it, with nothing beside it, whatever the part and the scope are.
func TestWrongPlans(t *testing.T) {
	for _, p := range wrong() {
		if Right(p) {
			t.Errorf("Right(%v) = true", p)
		}
		if n, err := Size(p); n != 0 || err != api.ErrArg {
			t.Errorf("Size(%v) = %v, %v", p, n, err)
		}
		if x, err := Immortal(p); x != (api.Extent{}) || err != api.ErrArg {
			t.Errorf("Immortal(%v) = %v, %v", p, x, err)
		}
		if x, err := Heap(p); x != (api.Extent{}) || err != api.ErrArg {
			t.Errorf("Heap(%v) = %v, %v", p, x, err)
		}
		for _, part := range []int{math.MinInt, -1, 0, 1, 2, 3, 4, 5, math.MaxInt} {
			for _, scope := range []int{math.MinInt, -1, 0, 1, 7, 8, 9, math.MaxInt, p.Scopes - 1, p.Scopes} {
				if at, err := At(p, part, scope); at != 0 || err != api.ErrArg {
					t.Errorf("At(%v, %d, %d) = %v, %v", p, part, scope, at, err)
				}
			}
		}
	}
}

// P5.1: one field after the other, from below what it may be to above it, by ones.
func TestRightByOnes(t *testing.T) {
	for n := -20; n <= 8220; n++ {
		whole := n >= 0 && n%8 == 0
		for _, x := range []struct {
			plan api.Plan
			want bool
		}{
			{api.Plan{Scopes: n, Threads: 4, Immortal: 8, Heap: 16}, n >= 1 && n <= 8},
			{api.Plan{Scopes: 8, Threads: n, Immortal: 8, Heap: 16}, n >= 1 && n <= 4},
			{api.Plan{Scopes: 3, Threads: 2, Immortal: n, Heap: 16}, whole && n <= 2048},
			{api.Plan{Scopes: 3, Threads: 2, Immortal: 8, Heap: n}, whole && n <= 8192},
		} {
			if got := Right(x.plan); got != x.want {
				t.Errorf("Right(%v) = %v", x.plan, got)
			}
		}
	}
}

// P5.2: the parts are numbered 0 to 4.
func TestPartNumbers(t *testing.T) {
	got := [...]int{PtCtl, PtBase, PtBudget, PtTop, PtPortal}
	if got != [...]int{0, 1, 2, 3, 4} {
		t.Error(got)
	}
}

// P5.2: the document's example.
func TestExample(t *testing.T) {
	p := api.Plan{Scopes: 2, Threads: 1, Immortal: 16, Heap: 64}
	if n, err := Size(p); n != 208 || err != api.OK {
		t.Error(n, err)
	}
	if at, err := At(p, PtTop, 1); at != 88 || err != api.OK {
		t.Error(at, err)
	}
	if x, err := Immortal(p); x != (api.Extent{At: 128, Size: 16}) || err != api.OK {
		t.Error(x, err)
	}
	if x, err := Heap(p); x != (api.Extent{At: 144, Size: 64}) || err != api.OK {
		t.Error(x, err)
	}
}

// P5.2: the least and the greatest plan, and extents that are empty: these have a place nevertheless.
func TestEdges(t *testing.T) {
	for _, x := range []struct {
		plan           api.Plan
		size, last     int
		immortal, heap api.Extent
	}{
		{api.Plan{Scopes: 1, Threads: 1}, 64, 32, api.Extent{At: 64}, api.Extent{At: 64}},
		{api.Plan{Scopes: 1, Threads: 4}, 64, 32, api.Extent{At: 64}, api.Extent{At: 64}},
		{api.Plan{Scopes: 8, Threads: 4}, 512, 480, api.Extent{At: 512}, api.Extent{At: 512}},
		{api.Plan{Scopes: 1, Threads: 1, Immortal: 2048}, 2112, 32, api.Extent{At: 64, Size: 2048}, api.Extent{At: 2112}},
		{api.Plan{Scopes: 1, Threads: 1, Heap: 8192}, 8256, 32, api.Extent{At: 64}, api.Extent{At: 64, Size: 8192}},
		{api.Plan{Scopes: 8, Threads: 4, Immortal: 2048, Heap: 8192}, 10752, 480, api.Extent{At: 512, Size: 2048}, api.Extent{At: 2560, Size: 8192}},
	} {
		if n, err := Size(x.plan); n != x.size || err != api.OK {
			t.Errorf("Size(%v) = %v, %v", x.plan, n, err)
		}
		if at, err := At(x.plan, PtCtl, 0); at != 0 || err != api.OK {
			t.Errorf("At(%v, PtCtl, 0) = %v, %v", x.plan, at, err)
		}
		if at, err := At(x.plan, PtPortal, x.plan.Scopes-1); at != x.last || err != api.OK {
			t.Errorf("At(%v, PtPortal, %d) = %v, %v", x.plan, x.plan.Scopes-1, at, err)
		}
		if e, err := Immortal(x.plan); e != x.immortal || err != api.OK {
			t.Errorf("Immortal(%v) = %v, %v", x.plan, e, err)
		}
		if e, err := Heap(x.plan); e != x.heap || err != api.OK {
			t.Errorf("Heap(%v) = %v, %v", x.plan, e, err)
		}
	}
}

// checkAgainstArena holds what is told of a plan against the arena byte by byte.
func checkAgainstArena(t *testing.T, p api.Plan) {
	t.Helper()
	bytes := arena(p)
	if n, err := Size(p); n != len(bytes) || err != api.OK {
		t.Errorf("Size(%v) = %v, %v", p, n, err)
	}
	for scope := 0; scope < p.Scopes; scope++ {
		for part := 0; part < 5; part++ {
			at, err := At(p, part, scope)
			if err != api.OK || at < 0 || at > len(bytes)-8 {
				t.Errorf("At(%v, %d, %d) = %v, %v", p, part, scope, at, err)
				continue
			}
			for i := 0; i < 8; i++ {
				if bytes[at+i] != (use{kindPart, scope, part, i}) {
					t.Errorf("At(%v, %d, %d) = %v, where byte %d is %v", p, part, scope, at, i, bytes[at+i])
				}
			}
		}
	}
	immortal, err := Immortal(p)
	checkExtent(t, p, kindImmortal, immortal, err, p.Immortal, bytes)
	heap, err := Heap(p)
	checkExtent(t, p, kindHeap, heap, err, p.Heap, bytes)
	if immortal.At+immortal.Size != heap.At || heap.At+heap.Size != len(bytes) {
		t.Errorf("of %v: %v, %v, one is not behind the other", p, immortal, heap)
	}
}

// checkExtent holds an extent against what its bytes are for.
func checkExtent(t *testing.T, p api.Plan, kind string, e api.Extent, err api.Errno, size int, bytes []use) {
	t.Helper()
	if err != api.OK || e.Size != size || e.At < 0 || e.At+e.Size > len(bytes) {
		t.Errorf("%s of %v = %v, %v", kind, p, e, err)
		return
	}
	for i, b := range bytes[e.At : e.At+e.Size] {
		if b != (use{kind, 0, 0, i}) {
			t.Errorf("%s of %v = %v, where byte %d is %v", kind, p, e, i, b)
			return
		}
	}
}

// P5.2: plans of every number of scopes, with and without bytes, held against the arena; how many threads there are moves nothing.
func TestAgainstArena(t *testing.T) {
	for _, scopes := range []int{1, 2, 3, 4, 5, 6, 7, 8} {
		for _, immortal := range []int{0, 8, 64, 2048} {
			for _, heap := range []int{0, 8, 72, 8192} {
				for _, threads := range []int{1, 2, 3, 4} {
					checkAgainstArena(t, api.Plan{Scopes: scopes, Threads: threads, Immortal: immortal, Heap: heap})
				}
			}
		}
	}
	r := rand.New(rand.NewSource(5))
	for range 200 {
		checkAgainstArena(t, api.Plan{Scopes: 1 + r.Intn(8), Threads: 1 + r.Intn(4), Immortal: 8 * r.Intn(257), Heap: 8 * r.Intn(1025)})
	}
}

// P5.2: a part that is none is ErrArg, whatever the scope; a scope that is none is ErrNone, of each part that is one.
func TestWrongPartsAndScopes(t *testing.T) {
	parts := []int{-1, -2, -5, -8, 5, 6, 7, 8, 9, 256, 1 << 32, 1<<32 + 1, 1 << 61, 1 << 62, -1 << 32, -1 << 61, math.MinInt, math.MinInt + 1, math.MaxInt, math.MaxInt - 1}
	for _, p := range right() {
		if p.Immortal > 16 || p.Heap > 16 && p.Heap < 8192 {
			continue
		}
		scopes := []int{-1, -2, -8, p.Scopes, p.Scopes + 1, 8, 9, 64, 256, 1 << 32, 1<<32 + 1, 1 << 58, 1 << 59, 1 << 60, -1 << 32, -1 << 58, math.MinInt, math.MinInt + 1, math.MaxInt, math.MaxInt - 1}
		for _, part := range parts {
			for _, scope := range append([]int{0, p.Scopes - 1}, scopes...) {
				if at, err := At(p, part, scope); at != 0 || err != api.ErrArg {
					t.Errorf("At(%v, %d, %d) = %v, %v", p, part, scope, at, err)
				}
			}
		}
		for part := 0; part < 5; part++ {
			for _, scope := range scopes {
				if at, err := At(p, part, scope); at != 0 || err != api.ErrNone {
					t.Errorf("At(%v, %d, %d) = %v, %v", p, part, scope, at, err)
				}
			}
		}
	}
}

// P5.3: no two parts have one place, and no part has a place within an extent: each byte is of one of them at most.
func TestNoTwoPartsHaveOnePlace(t *testing.T) {
	for _, p := range right() {
		size, err := Size(p)
		if err != api.OK {
			t.Fatalf("Size(%v): %v", p, err)
		}
		taken := make([]bool, size)
		take := func(at, many int) {
			if at < 0 || many > size-at {
				t.Fatalf("of %v: %d bytes from %d on are not all there", p, many, at)
			}
			for i := at; i < at+many; i++ {
				if taken[i] {
					t.Fatalf("of %v: byte %d is of two", p, i)
				}
				taken[i] = true
			}
		}
		for scope := 0; scope < p.Scopes; scope++ {
			for part := 0; part < 5; part++ {
				at, err := At(p, part, scope)
				if err != api.OK || at%8 != 0 {
					t.Fatalf("At(%v, %d, %d) = %v, %v", p, part, scope, at, err)
				}
				take(at, 8)
			}
		}
		immortal, _ := Immortal(p)
		take(immortal.At, immortal.Size)
		heap, _ := Heap(p)
		take(heap.At, heap.Size)
	}
}

// R6: what is told hangs on what is handed in alone: calls of other plans between move nothing.
func TestNothingIsKept(t *testing.T) {
	p, other := api.Plan{Scopes: 3, Threads: 2, Immortal: 24, Heap: 40}, api.Plan{Scopes: 8, Threads: 4, Immortal: 2048, Heap: 8192}
	for range 3 {
		if n, err := Size(p); n != 256 || err != api.OK {
			t.Error(n, err)
		}
		if at, err := At(p, PtBudget, 2); at != 144 || err != api.OK {
			t.Error(at, err)
		}
		if x, err := Heap(p); x != (api.Extent{At: 216, Size: 40}) || err != api.OK {
			t.Error(x, err)
		}
		checkAgainstArena(t, other)
	}
}
