package ground

import (
	"math"
	"math/rand"
	"slices"
	"testing"

	"penfold/api"
)

// most is the greatest at, and the greatest size, written out.
const most = 65536

// plain is a ground told byte by byte: of each byte of it, whether that is free.
type plain struct {
	at   int
	free []bool
}

func plainOf(at, size int) *plain {
	p := &plain{at: at, free: make([]bool, size)}
	for i := range p.free {
		p.free[i] = true
	}
	return p
}

// list is what Free must tell: runs of free bytes that are as long as may be.
func (p *plain) list() []api.Extent {
	var l []api.Extent
	for i, free := range p.free {
		if !free {
			continue
		}
		if i == 0 || !p.free[i-1] {
			l = append(l, api.Extent{At: p.at + i})
		}
		l[len(l)-1].Size++
	}
	return l
}

func (p *plain) carve(size int) (int, bool) {
	if size < 1 || size%8 != 0 {
		return 0, false
	}
	for _, e := range p.list() {
		if e.Size >= size {
			p.mark(e.At, size, false)
			return e.At, true
		}
	}
	return 0, false
}

func (p *plain) give(at, size int) api.Errno {
	if size < 1 || at%8 != 0 || size%8 != 0 {
		return api.ErrArg
	}
	// It ends at the first byte that stands against it, so a great size is not counted through.
	for i := range size {
		if at+i < p.at || at+i >= p.at+len(p.free) || p.free[at+i-p.at] {
			return api.ErrArg
		}
	}
	p.mark(at, size, true)
	return api.OK
}

func (p *plain) mark(at, size int, free bool) {
	for i := range size {
		p.free[at-p.at+i] = free
	}
}

// fresh is a ground that must be told.
func fresh(t *testing.T, at, size int) *Ground {
	t.Helper()
	g, err := New(at, size)
	if g == nil || err != api.OK {
		t.Fatalf("New(%d, %d) = %v, %d", at, size, g, err)
	}
	return g
}

// free asks for the free extents, and holds them against these.
func free(t *testing.T, g *Ground, want ...api.Extent) {
	t.Helper()
	if l := g.Free(); !slices.Equal(l, want) {
		t.Fatalf("Free() = %v; want %v", l, want)
	}
}

// carve must tell this.
func carve(t *testing.T, g *Ground, size, at int, ok bool) {
	t.Helper()
	if gotAt, gotOk := g.Carve(size); gotAt != at || gotOk != ok {
		t.Fatalf("Carve(%d) = %d, %v; want %d, %v", size, gotAt, gotOk, at, ok)
	}
}

// give must tell this.
func give(t *testing.T, g *Ground, at, size int, err api.Errno) {
	t.Helper()
	if got := g.Give(at, size); got != err {
		t.Fatalf("Give(%d, %d) = %d; want %d", at, size, got, err)
	}
}

// holed has just these extents free: all is carved, and they are given back.
func holed(t *testing.T, at, size int, holes ...api.Extent) *Ground {
	t.Helper()
	g := fresh(t, at, size)
	carve(t, g, size, at, true)
	for _, e := range holes {
		give(t, g, e.At, e.Size, api.OK)
	}
	return g
}

// fars are numbers that are no place and no size of any ground, about the greatest and the least one, and about where words wrap round.
func fars() []int {
	l := []int{-1, -8, -16, most*2 + 8, 1 << 31, 1 << 32, -1 << 31, -1 << 32, 1 << 62, -1 << 62}
	for d := range 17 {
		l = append(l, math.MaxInt-d, math.MinInt+d)
	}
	return l
}

// P4.1: grounds that may be are all free, whole.
func TestNew(t *testing.T) {
	for _, at := range []int{0, 8, 64, 144, most - 8, most} {
		for _, size := range []int{8, 16, 64, 8192, most - 8, most} {
			free(t, fresh(t, at, size), api.Extent{At: at, Size: size})
		}
	}
}

// P4.1: a ground of 0 bytes has none that is free, and there is nothing to be carved, or given back.
func TestNewEmpty(t *testing.T) {
	for _, at := range []int{0, 8, 64, most} {
		g := fresh(t, at, 0)
		free(t, g)
		for _, size := range []int{-8, 0, 1, 8, 16, most} {
			carve(t, g, size, 0, false)
			give(t, g, at, size, api.ErrArg)
			give(t, g, 0, size, api.ErrArg)
		}
		free(t, g)
	}
}

// P4.1: an at, or a size, that may not be is ErrArg and no ground, whatever the other one is.
func TestNewWrong(t *testing.T) {
	wrong := append(fars(), 1, 2, 4, 7, 9, 12, 63, 65, -4, most-1, most-4, most+1, most+4, most+8, most*2)
	for _, w := range wrong {
		for _, x := range [][2]int{{w, 0}, {w, 8}, {w, most}, {0, w}, {8, w}, {most, w}, {w, w}, {w, -8}, {-8, w}} {
			if g, err := New(x[0], x[1]); g != nil || err != api.ErrArg {
				t.Errorf("New(%d, %d) = %v, %d", x[0], x[1], g, err)
			}
		}
	}
}

// P4.1, P4.2: the greatest ground, from the last place on.
func TestGreatest(t *testing.T) {
	g := fresh(t, most, most)
	carve(t, g, most+8, 0, false)
	carve(t, g, most-8, most, true)
	free(t, g, api.Extent{At: 2*most - 8, Size: 8})
	carve(t, g, 16, 0, false)
	carve(t, g, 8, 2*most-8, true)
	free(t, g)
	give(t, g, 2*most, 8, api.ErrArg)
	give(t, g, 2*most-8, 16, api.ErrArg)
	give(t, g, most-8, 8, api.ErrArg)
	give(t, g, most-8, 16, api.ErrArg)
	give(t, g, 2*most-8, 8, api.OK)
	give(t, g, most, most-8, api.OK)
	free(t, g, api.Extent{At: most, Size: most})
}

// P4.2: the chapter's example.
func TestExample(t *testing.T) {
	g := fresh(t, 0, 64)
	carve(t, g, 16, 0, true)
	carve(t, g, 16, 16, true)
	give(t, g, 0, 16, api.OK)
	carve(t, g, 24, 32, true)
	free(t, g, api.Extent{At: 0, Size: 16}, api.Extent{At: 56, Size: 8})
}

// P4.2: what is carved is the first part of the first extent that is great enough: of two that are, the first; an extent that is just as great is free no more.
func TestCarveFirst(t *testing.T) {
	holes := []api.Extent{{At: 16, Size: 8}, {At: 32, Size: 24}, {At: 64, Size: 16}, {At: 96, Size: 32}}
	for _, x := range []struct {
		size, at int
		ok       bool
		left     []api.Extent
	}{
		{8, 16, true, []api.Extent{{At: 32, Size: 24}, {At: 64, Size: 16}, {At: 96, Size: 32}}},
		{16, 32, true, []api.Extent{{At: 16, Size: 8}, {At: 48, Size: 8}, {At: 64, Size: 16}, {At: 96, Size: 32}}},
		{24, 32, true, []api.Extent{{At: 16, Size: 8}, {At: 64, Size: 16}, {At: 96, Size: 32}}},
		{32, 96, true, []api.Extent{{At: 16, Size: 8}, {At: 32, Size: 24}, {At: 64, Size: 16}}},
		{40, 0, false, holes},
		{80, 0, false, holes},
	} {
		g := holed(t, 8, 128, holes...)
		carve(t, g, x.size, x.at, x.ok)
		free(t, g, x.left...)
	}
}

// P4.2: a ground that is carved whole, by one call and by many, has no more.
func TestCarveWhole(t *testing.T) {
	g := fresh(t, 24, 40)
	carve(t, g, 48, 0, false)
	carve(t, g, 40, 24, true)
	free(t, g)
	carve(t, g, 8, 0, false)
	g = fresh(t, 24, 40)
	for i := range 5 {
		carve(t, g, 8, 24+8*i, true)
	}
	free(t, g)
	carve(t, g, 8, 0, false)
}

// P4.2: a size that may not be carved is 0 and false, though there is enough, and changes nothing.
func TestCarveWrong(t *testing.T) {
	holes := []api.Extent{{At: 8, Size: 16}, {At: 32, Size: 64}}
	g := holed(t, 0, 128, holes...)
	for _, size := range append(fars(), 0, 1, 2, 4, 7, 9, 12, 15, 17, 20, 63, -4, 72, 80, 128, most) {
		carve(t, g, size, 0, false)
		free(t, g, holes...)
	}
}

// P4.2: what is given back becomes one with what it touches: ahead of it, behind it, both, or neither.
func TestGiveTouches(t *testing.T) {
	for _, x := range []struct {
		at, size int
		left     []api.Extent
	}{
		{16, 8, []api.Extent{{At: 0, Size: 24}, {At: 40, Size: 8}, {At: 64, Size: 16}}},
		{32, 8, []api.Extent{{At: 0, Size: 16}, {At: 32, Size: 16}, {At: 64, Size: 16}}},
		{24, 8, []api.Extent{{At: 0, Size: 16}, {At: 24, Size: 8}, {At: 40, Size: 8}, {At: 64, Size: 16}}},
		{16, 24, []api.Extent{{At: 0, Size: 48}, {At: 64, Size: 16}}},
		{48, 16, []api.Extent{{At: 0, Size: 16}, {At: 40, Size: 40}}},
		{80, 8, []api.Extent{{At: 0, Size: 16}, {At: 40, Size: 8}, {At: 64, Size: 24}}},
		{88, 8, []api.Extent{{At: 0, Size: 16}, {At: 40, Size: 8}, {At: 64, Size: 16}, {At: 88, Size: 8}}},
		{80, 16, []api.Extent{{At: 0, Size: 16}, {At: 40, Size: 8}, {At: 64, Size: 32}}},
	} {
		g := holed(t, 0, 96, api.Extent{At: 64, Size: 16}, api.Extent{At: 0, Size: 16}, api.Extent{At: 40, Size: 8})
		give(t, g, x.at, x.size, api.OK)
		free(t, g, x.left...)
	}
}

// P4.2: a part of what was carved may be given back, and what several calls carved, at once.
func TestGiveParts(t *testing.T) {
	g := fresh(t, 8, 64)
	carve(t, g, 32, 8, true)
	carve(t, g, 16, 40, true)
	carve(t, g, 16, 56, true)
	give(t, g, 16, 8, api.OK)
	free(t, g, api.Extent{At: 16, Size: 8})
	give(t, g, 32, 16, api.OK)
	free(t, g, api.Extent{At: 16, Size: 8}, api.Extent{At: 32, Size: 16})
	give(t, g, 48, 24, api.OK)
	free(t, g, api.Extent{At: 16, Size: 8}, api.Extent{At: 32, Size: 40})
	carve(t, g, 40, 32, true)
	give(t, g, 24, 48, api.OK)
	give(t, g, 8, 8, api.OK)
	free(t, g, api.Extent{At: 8, Size: 64})
}

// P4.2: what may not be given back is ErrArg, and changes nothing.
func TestGiveWrong(t *testing.T) {
	holes := []api.Extent{{At: 32, Size: 16}, {At: 64, Size: 8}}
	g := holed(t, 16, 80, holes...)
	refused := func(at, size int) {
		t.Helper()
		give(t, g, at, size, api.ErrArg)
		free(t, g, holes...)
	}
	for _, x := range [][2]int{
		{16, 0}, {24, 0}, {32, 0}, {96, 0}, {16, -8}, {24, -8}, // nothing
		{16, 1}, {16, 4}, {16, 7}, {16, 9}, {16, 12}, {17, 8}, {20, 8}, {23, 8}, {20, 4}, // no multiples of 8
		{32, 16}, {32, 8}, {40, 8}, {64, 8}, // free
		{24, 16}, {16, 24}, {24, 24}, {24, 32}, {40, 16}, {32, 24}, {40, 32}, {48, 24}, {56, 16}, {64, 16}, {16, 80}, // partly free
		{0, 8}, {8, 8}, {0, 16}, {96, 8}, {104, 8}, {most, 8}, {-8, 8}, // outside
		{8, 16}, {0, 32}, {88, 16}, {72, 32}, {0, 112}, {-8, 112}, // partly outside
	} {
		refused(x[0], x[1])
	}
	for _, n := range fars() {
		for _, other := range append(fars(), 0, 8, 16, 24, 72, 80, 96) {
			refused(n, other)
			refused(other, n)
		}
	}
	give(t, g, 72, 24, api.OK)
	give(t, g, 16, 16, api.OK)
	give(t, g, 48, 16, api.OK)
	free(t, g, api.Extent{At: 16, Size: 80})
}

// P4.2: given back twice is refused, and so is what was never carved.
func TestGiveTwice(t *testing.T) {
	g := fresh(t, 0, 64)
	give(t, g, 0, 8, api.ErrArg)
	give(t, g, 0, 64, api.ErrArg)
	carve(t, g, 24, 0, true)
	give(t, g, 24, 8, api.ErrArg)
	give(t, g, 0, 24, api.OK)
	give(t, g, 0, 24, api.ErrArg)
	free(t, g, api.Extent{At: 0, Size: 64})
}

// P4.1, P4.2: of a small ground every set of free words, and each call of it, held against bytes one by one.
func TestEverySet(t *testing.T) {
	const at, words = 16, 6
	for set := range 1 << words {
		both := func() (*Ground, *plain) {
			g, p := holed(t, at, 8*words), plainOf(at, 8*words)
			p.mark(at, 8*words, false)
			for i := range words {
				// 5 and 6 share no divisor, so that each word has its turn, the last ones first.
				if word := i * 5 % words; set>>word&1 == 1 {
					give(t, g, at+8*word, 8, api.OK)
					p.mark(at+8*word, 8, true)
				}
			}
			return g, p
		}
		for size := -8; size <= 8*words+9; size++ {
			g, p := both()
			wantAt, wantOk := p.carve(size)
			carve(t, g, size, wantAt, wantOk)
			free(t, g, p.list()...)
		}
		for from := -8; from <= at+8*words+8; from += 4 {
			for size := -8; size <= at+8*words+16; size += 4 {
				g, p := both()
				give(t, g, from, size, p.give(from, size))
				free(t, g, p.list()...)
			}
		}
	}
}

// P4.1, P4.2, P4.3: long rows of calls, right and wrong ones, with Free asked behind each, held against bytes one by one.
func TestRows(t *testing.T) {
	for seed := range 200 {
		r := rand.New(rand.NewSource(int64(seed)))
		at, size := 8*r.Intn(10), 8*r.Intn(60)
		g, p := fresh(t, at, size), plainOf(at, size)
		for range 300 {
			n := 8 * r.Intn(9)
			if r.Intn(12) == 0 {
				n += r.Intn(8)
			}
			if r.Intn(2) == 0 {
				wantAt, wantOk := p.carve(n)
				carve(t, g, n, wantAt, wantOk)
			} else {
				from := 8 * r.Intn((at+size)/8+2)
				give(t, g, from, n, p.give(from, n))
			}
			free(t, g, p.list()...)
		}
	}
}

// P4.3: what is carved, and not given back, is disjoint, of the ground, and none of what is free; all of it together is the ground.
func TestDisjoint(t *testing.T) {
	const at, size = 40, 512
	for seed := range 100 {
		r := rand.New(rand.NewSource(int64(seed)))
		g := fresh(t, at, size)
		var held []api.Extent
		for range 200 {
			if n := 8 + 8*r.Intn(8); r.Intn(5) < 3 {
				if from, ok := g.Carve(n); ok {
					held = append(held, api.Extent{At: from, Size: n})
				}
			} else if len(held) > 0 {
				i := r.Intn(len(held))
				give(t, g, held[i].At, held[i].Size, api.OK)
				held = slices.Delete(held, i, i+1)
			}
			seen := make([]int, at+size)
			for _, e := range append(g.Free(), held...) {
				for i := range e.Size {
					seen[e.At+i]++
				}
			}
			if slices.ContainsFunc(seen[:at], func(n int) bool { return n != 0 }) || slices.ContainsFunc(seen[at:], func(n int) bool { return n != 1 }) {
				t.Fatalf("seed %d: carved %v, free %v", seed, held, g.Free())
			}
		}
		for _, i := range r.Perm(len(held)) {
			give(t, g, held[i].At, held[i].Size, api.OK)
		}
		free(t, g, api.Extent{At: at, Size: size})
	}
}

// orders are all orders of the numbers below n.
func orders(n int) [][]int {
	if n == 0 {
		return [][]int{nil}
	}
	var l [][]int
	for _, o := range orders(n - 1) {
		for i := range n {
			l = append(l, slices.Insert(slices.Clone(o), i, n-1))
		}
	}
	return l
}

// P4.3: all given back, in whatever order, is one extent again, and may be carved whole.
func TestGiveAll(t *testing.T) {
	sizes := []int{8, 24, 16, 8, 40, 16}
	for _, o := range orders(len(sizes)) {
		g := fresh(t, 72, 112)
		var held []api.Extent
		for _, n := range sizes {
			from, ok := g.Carve(n)
			if !ok {
				t.Fatalf("Carve(%d) = false", n)
			}
			held = append(held, api.Extent{At: from, Size: n})
		}
		free(t, g)
		for _, i := range o {
			give(t, g, held[i].At, held[i].Size, api.OK)
		}
		free(t, g, api.Extent{At: 72, Size: 112})
		carve(t, g, 112, 72, true)
	}
}

// P4.1 (R7): what Free told is the caller's own: neither sees what becomes of the other's.
func TestFreeIsOwn(t *testing.T) {
	holes := []api.Extent{{At: 0, Size: 8}, {At: 16, Size: 24}, {At: 48, Size: 8}}
	g := holed(t, 0, 64, holes...)
	told, kept := g.Free(), g.Free()
	for i := range told {
		told[i] = api.Extent{At: -1, Size: -1}
	}
	for _, l := range [][]api.Extent{g.Free(), g.Free()[:0], g.Free()[:1]} {
		for range 5 {
			l = append(l, api.Extent{At: 999, Size: 999})
		}
	}
	free(t, g, holes...)
	carve(t, g, 16, 16, true)
	carve(t, g, 8, 0, true)
	give(t, g, 40, 8, api.OK)
	free(t, g, api.Extent{At: 32, Size: 24})
	if !slices.Equal(kept, holes) {
		t.Errorf("what was told is %v; it was %v", kept, holes)
	}
}

// R6: a ground sees nothing of what is done to another one.
func TestTwoGrounds(t *testing.T) {
	a, b := fresh(t, 0, 64), fresh(t, 0, 64)
	carve(t, a, 32, 0, true)
	free(t, b, api.Extent{At: 0, Size: 64})
	carve(t, b, 8, 0, true)
	give(t, a, 0, 32, api.OK)
	free(t, a, api.Extent{At: 0, Size: 64})
	free(t, b, api.Extent{At: 8, Size: 56})
}
