package chain

import (
	"math"
	"math/rand"
	"slices"
	"testing"

	"penfold/api"
)

// in is an entry that is counted, at one that is not.
func in(scope int) api.Entry { return api.Entry{Scope: scope, Counted: true} }
func at(scope int) api.Entry { return api.Entry{Scope: scope} }

func list(l ...api.Entry) []api.Entry { return l }

// stray stands in the room behind a list's last entry: nobody may read it, or write over it.
var stray = api.Entry{Scope: 77, Counted: true}

// roomy is a list of its own with the same entries, and with room behind them.
func roomy(l []api.Entry) []api.Entry {
	own := slices.Clone(l)
	for range 4 {
		own = append(own, stray)
	}
	return own[:len(l)]
}

// wantAsItWas holds a list that roomy made, and the room behind it, against what it was made of.
func wantAsItWas(t *testing.T, own, l []api.Entry) {
	t.Helper()
	behind := own[len(l) : len(l)+4]
	if !slices.Equal(own, l) || !slices.Equal(behind, list(stray, stray, stray, stray)) {
		t.Fatalf("%v became %v, with %v behind it", l, own, behind)
	}
}

// area, reach, parent and above are what the document says, told again in another way.
func area(l []api.Entry) int {
	last := 0
	for _, e := range l {
		last = e.Scope
	}
	return last
}

func reach(l []api.Entry, scope int) bool {
	return scope == 0 || slices.Contains(l, in(scope))
}

func parent(l []api.Entry, scope int) int {
	told := -1
	for i := len(l) - 1; i >= 0; i-- {
		if l[i] == in(scope) {
			told = area(l[:i])
		}
	}
	return told
}

func above(l []api.Entry, scope, below int) bool {
	ups := []int{0, below}
	for len(ups) < 2+8 {
		ups = append(ups, parent(l, ups[len(ups)-1]))
	}
	return slices.Contains(ups, scope)
}

// check holds all that is asked of a list against the document, of each of these scopes, and of each two of them.
func check(t *testing.T, l []api.Entry, scopes []int) {
	t.Helper()
	own := roomy(l)
	if told := Area(own); told != area(l) {
		t.Fatalf("Area(%v) = %d; want %d", l, told, area(l))
	}
	for _, scope := range scopes {
		if told := Reach(own, scope); told != reach(l, scope) {
			t.Fatalf("Reach(%v, %d) = %v", l, scope, told)
		}
		if told := Parent(own, scope); told != parent(l, scope) {
			t.Fatalf("Parent(%v, %d) = %d; want %d", l, scope, told, parent(l, scope))
		}
		for _, below := range scopes {
			if told := Above(own, scope, below); told != above(l, scope, below) {
				t.Fatalf("Above(%v, %d, %d) = %v", l, scope, below, told)
			}
		}
	}
	wantAsItWas(t, own, l)
}

// checkStack holds Push and Pop of a list against the document.
func checkStack(t *testing.T, l []api.Entry, e api.Entry) {
	t.Helper()
	own := roomy(l)
	more, err := Push(own, e)
	if len(l) >= 6 {
		if len(more) != 0 || err != api.ErrDeep {
			t.Fatalf("Push(%v, %v) = %v, %d; want none, %d", l, e, more, err, api.ErrDeep)
		}
	} else if !slices.Equal(more, append(slices.Clone(l), e)) || err != api.OK {
		t.Fatalf("Push(%v, %v) = %v, %d", l, e, more, err)
	}
	wantAsItWas(t, own, l)
	less, last, err := Pop(own)
	if len(l) == 0 {
		if len(less) != 0 || last != (api.Entry{}) || err != api.ErrEmpty {
			t.Fatalf("Pop(%v) = %v, %v, %d; want none, none, %d", l, less, last, err, api.ErrEmpty)
		}
	} else if !slices.Equal(append(slices.Clone(less), last), l) || err != api.OK {
		t.Fatalf("Pop(%v) = %v, %v, %d", l, less, last, err)
	}
	wantAsItWas(t, own, l)
}

// spoil writes into each entry, and into the room behind the last one.
func spoil(l []api.Entry) {
	for i := range l[:cap(l)] {
		l[:cap(l)][i] = api.Entry{Scope: -999, Counted: true}
	}
}

// P9.1, P9.2: the chapter's example, and all else of it.
func TestExample(t *testing.T) {
	l := list(in(1), in(2), at(1))
	if told := Area(l); told != 1 {
		t.Errorf("Area = %d; want 1", told)
	}
	if told := Parent(l, 2); told != 1 {
		t.Errorf("Parent of 2 = %d; want 1", told)
	}
	if !Above(l, 1, 2) || Above(l, 2, 1) {
		t.Errorf("Above(1, 2), Above(2, 1) = %v, %v; want true, false", Above(l, 1, 2), Above(l, 2, 1))
	}
	check(t, l, []int{-1, 0, 1, 2, 3})
}

// P9.1, P9.2: no entries, be the list nil, empty, or empty with room behind it.
func TestNoEntries(t *testing.T) {
	for _, l := range [][]api.Entry{nil, {}, roomy(nil)} {
		if told := Area(l); told != 0 {
			t.Errorf("Area(%v) = %d; want 0", l, told)
		}
		for _, scope := range []int{-1, 0, 1, 7, 8, math.MaxInt, math.MinInt} {
			if told := Reach(l, scope); told != (scope == 0) {
				t.Errorf("Reach(%v, %d) = %v", l, scope, told)
			}
			if told := Parent(l, scope); told != -1 {
				t.Errorf("Parent(%v, %d) = %d; want -1", l, scope, told)
			}
			if !Above(l, scope, scope) || !Above(l, 0, scope) || !Above(l, -1, scope) || Above(l, 5, scope) {
				t.Errorf("Above(%v, .., %d)", l, scope)
			}
		}
		if less, last, err := Pop(l); len(less) != 0 || last != (api.Entry{}) || err != api.ErrEmpty {
			t.Errorf("Pop(%v) = %v, %v, %d; want none, none, %d", l, less, last, err, api.ErrEmpty)
		}
		if more, err := Push(l, at(3)); !slices.Equal(more, list(at(3))) || err != api.OK {
			t.Errorf("Push(%v, 3) = %v, %d", l, more, err)
		}
	}
}

// P9.1: the last one's scope, be it counted or not, and 0 as any other.
func TestArea(t *testing.T) {
	for _, x := range []struct {
		l    []api.Entry
		want int
	}{
		{list(in(1)), 1},
		{list(at(1)), 1},
		{list(in(1), at(2)), 2},
		{list(at(1), in(2)), 2},
		{list(in(1), in(2), at(0)), 0},
		{list(in(1), in(2), in(1)), 1},
		{list(in(1), in(2), at(-1)), -1},
		{list(in(1), in(math.MaxInt)), math.MaxInt},
		{list(in(1), in(math.MinInt)), math.MinInt},
		{list(in(1), in(2), in(3), in(4), in(5), in(6), in(7), in(8)), 8},
	} {
		if told := Area(x.l); told != x.want {
			t.Errorf("Area(%v) = %d; want %d", x.l, told, x.want)
		}
	}
}

// P9.1: counted ones alone are reached, the immortal one always.
func TestReach(t *testing.T) {
	for _, x := range []struct {
		l     []api.Entry
		scope int
		want  bool
	}{
		{list(in(1)), 1, true},
		{list(at(1)), 1, false},
		{list(in(1)), 2, false},
		{list(in(1)), 0, true},
		{list(at(0)), 0, true},
		{list(in(1), at(1)), 1, true},
		{list(at(1), in(1)), 1, true},
		{list(at(1), at(1)), 1, false},
		{list(in(1), in(1)), 1, true},
		{list(in(1), in(2), in(3)), 2, true},
		{list(in(1), in(2), at(3)), 3, false},
		{list(in(1), in(2)), -1, false},
		{list(in(-1)), -1, true},
		{list(at(-1)), -1, false},
		{list(in(8)), 8, true},
		{list(in(1), in(math.MinInt)), math.MinInt, true},
		{list(in(1), in(math.MinInt)), math.MaxInt, false},
		{list(in(1), in(2), in(3), in(4), in(5), in(6), in(7), in(8)), 8, true},
	} {
		if told := Reach(x.l, x.scope); told != x.want {
			t.Errorf("Reach(%v, %d) = %v", x.l, x.scope, told)
		}
	}
}

// P9.1: what was last ahead of the first counted one, be that counted or not.
func TestParent(t *testing.T) {
	for _, x := range []struct {
		l           []api.Entry
		scope, want int
	}{
		{list(in(1)), 1, 0},
		{list(at(1)), 1, -1},
		{list(in(1)), 2, -1},
		{list(in(1)), 0, -1},
		{list(in(1)), -1, -1},
		{list(in(1), in(2)), 2, 1},
		{list(in(1), at(3), in(2)), 2, 3},
		{list(in(1), at(0), in(2)), 2, 0},
		{list(in(1), in(2), in(1)), 1, 0},        // twice: the first one
		{list(in(1), in(2), at(1)), 1, 0},        // counted only the first time
		{list(at(1), in(2), in(1)), 1, 2},        // counted only the second time
		{list(in(3), at(1), in(2), in(1)), 1, 2}, // the one that is not counted is passed over
		{list(at(1), in(1)), 1, 1},               // its own parent
		{list(at(1), at(2), at(1)), 1, -1},
		{list(in(1), in(0)), 0, 1}, // scope 0, as any other
		{list(in(0)), 0, 0},
		{list(in(1), at(0)), 0, -1},
		{list(at(-1), in(2)), 2, -1},
		{list(in(1), in(-1)), -1, 1},
		{list(at(math.MinInt), in(math.MaxInt)), math.MaxInt, math.MinInt},
		{list(in(1), in(2), in(3), in(4), in(5), in(6), in(7), in(8)), 8, 7},
	} {
		if told := Parent(x.l, x.scope); told != x.want {
			t.Errorf("Parent(%v, %d) = %d; want %d", x.l, x.scope, told, x.want)
		}
	}
}

// P9.2: what is above another one, and what is not.
func TestAbove(t *testing.T) {
	tree := list(in(1), in(2), at(1), in(3), in(4))
	for _, x := range []struct {
		l            []api.Entry
		scope, below int
		want         bool
	}{
		{tree, 1, 1, true}, {tree, 1, 2, true}, {tree, 1, 3, true}, {tree, 1, 4, true},
		{tree, 2, 1, false}, {tree, 2, 2, true}, {tree, 2, 3, false}, {tree, 2, 4, false},
		{tree, 3, 1, false}, {tree, 3, 2, false}, {tree, 3, 3, true}, {tree, 3, 4, true},
		{tree, 4, 1, false}, {tree, 4, 2, false}, {tree, 4, 3, false}, {tree, 4, 4, true},
		{tree, 0, 4, true}, {tree, 0, 0, true}, {tree, 4, 0, false},
		{tree, 0, 6, true}, {tree, 6, 6, true}, {tree, 6, 4, false}, {tree, 1, 6, false},
		{tree, 0, math.MinInt, true}, {tree, math.MaxInt, math.MaxInt, true}, {tree, math.MaxInt, 4, false}, {tree, 4, math.MinInt, false},
		{list(at(1), at(2)), 1, 2, false}, // none of both is counted
		{list(at(1), in(2)), 1, 2, true},  // the parent need not be
		{list(in(1), at(2)), 1, 2, false}, // the one below must be
	} {
		if told := Above(x.l, x.scope, x.below); told != x.want {
			t.Errorf("Above(%v, %d, %d) = %v", x.l, x.scope, x.below, told)
		}
	}
}

// P9.2: -1 comes up where parents end, and what is behind it, too.
func TestMinusOneComesUp(t *testing.T) {
	for _, x := range []struct {
		l            []api.Entry
		scope, below int
		want         bool
	}{
		{list(in(1), in(2)), -1, 2, true},
		{list(in(1), in(2)), -1, 0, true},
		{list(in(1), in(2)), -1, 9, true},
		{list(in(1), in(2)), -1, -1, true},
		{list(in(1), in(2)), 0, -1, true},
		{list(in(1), in(2)), 1, -1, false},
		{list(at(1)), -1, 1, true},
		{list(at(1), in(1)), -1, 1, false},        // comes round ahead of it
		{list(in(0)), -1, 0, false},               // 0 is its own parent
		{list(in(-1)), -1, 3, true},               // as no parent
		{list(in(5), in(-1)), 5, 3, true},         // none, and the parent of -1
		{list(at(5), in(-1), at(-1)), 5, 9, true}, // the same, where 5 is not counted
		{list(in(5), at(-1), in(3)), -1, 3, true}, // as an entry's scope
		{list(in(5), in(3)), 5, -1, false},
	} {
		if told := Above(x.l, x.scope, x.below); told != x.want {
			t.Errorf("Above(%v, %d, %d) = %v", x.l, x.scope, x.below, told)
		}
	}
}

// P9.2: parents that come round to themselves: what is among them comes up, and nothing else; it ends.
func TestRound(t *testing.T) {
	one := list(at(1), in(1))
	two := list(at(2), in(1), in(2))
	three := list(at(3), in(1), in(2), in(3))
	into := list(at(2), in(1), in(2), in(4)) // 4 leads into a round that it is not in
	for _, x := range []struct {
		l     []api.Entry
		below int
		ups   []int
	}{
		{one, 1, []int{0, 1}},
		{two, 1, []int{0, 1, 2}}, {two, 2, []int{0, 1, 2}},
		{three, 1, []int{0, 1, 2, 3}}, {three, 2, []int{0, 1, 2, 3}}, {three, 3, []int{0, 1, 2, 3}},
		{into, 4, []int{0, 1, 2, 4}}, {into, 1, []int{0, 1, 2}},
	} {
		for scope := -2; scope < 9; scope++ {
			if told := Above(x.l, scope, x.below); told != slices.Contains(x.ups, scope) {
				t.Errorf("Above(%v, %d, %d) = %v", x.l, scope, x.below, told)
			}
		}
	}
}

// P9.2: eight parents are gone up, and no more.
func TestEightTimes(t *testing.T) {
	var l []api.Entry
	for scope := 1; scope <= 20; scope++ {
		l = append(l, in(scope))
	}
	for below := 1; below <= 20; below++ {
		for scope := 1; scope <= 20; scope++ {
			want := scope <= below && scope >= below-8
			if told := Above(l, scope, below); told != want {
				t.Errorf("Above(1 to 20, %d, %d) = %v", scope, below, told)
			}
		}
		if !Above(l, 0, below) {
			t.Errorf("Above(1 to 20, 0, %d) = false", below)
		}
		// Behind 1 comes 0, and behind that -1.
		if told := Above(l, -1, below); told != (below+1 <= 8) {
			t.Errorf("Above(1 to 20, -1, %d) = %v", below, told)
		}
	}
}

// P9.1, P9.2: all lists of up to four entries of a few scopes, counted and not.
func TestEachList(t *testing.T) {
	scopes := []int{-1, 0, 1, 2}
	asked := []int{-2, -1, 0, 1, 2, 3}
	var each func(l []api.Entry)
	each = func(l []api.Entry) {
		check(t, l, asked)
		checkStack(t, l, in(2))
		if len(l) == 4 {
			return
		}
		for _, scope := range scopes {
			each(append(slices.Clone(l), in(scope)))
			each(append(slices.Clone(l), at(scope)))
		}
	}
	each(nil)
}

// P9.1, P9.2: lists of all lengths, with scopes from everywhere, by chance with a seed.
func TestRandomLists(t *testing.T) {
	chance := rand.New(rand.NewSource(9))
	odd := []int{-1, -2, 8, 9, 63, 64, math.MaxInt, math.MaxInt - 1, math.MinInt, math.MinInt + 1, 1 << 32, -1 << 32, 1<<32 + 1}
	scope := func() int {
		if chance.Intn(5) == 0 {
			return odd[chance.Intn(len(odd))]
		}
		return chance.Intn(8)
	}
	asked := append([]int{0, 1, 2, 3, 4, 5, 6, 7}, odd...)
	for range 3000 {
		var l []api.Entry
		for range chance.Intn(14) {
			l = append(l, api.Entry{Scope: scope(), Counted: chance.Intn(3) > 0})
		}
		check(t, l, asked)
		checkStack(t, l, api.Entry{Scope: scope(), Counted: chance.Intn(2) == 0})
	}
}

// P9.1, P9.2: many more entries than a thread may have are asked as any others; only Push refuses them.
func TestManyEntries(t *testing.T) {
	var l []api.Entry
	for i := range 10000 {
		l = append(l, api.Entry{Scope: i % 3000, Counted: i >= 1000})
	}
	check(t, l, []int{-1, 0, 1, 500, 999, 1000, 1001, 1008, 1009, 2999, 3000, math.MaxInt, math.MinInt})
	checkStack(t, l, in(1))
}

// P9.2: entries pushed one behind the other, and popped again; ErrDeep of six and more, ErrEmpty of none.
func TestPushAndPop(t *testing.T) {
	entries := list(in(1), in(2), at(1), in(-3), at(math.MaxInt), in(math.MinInt))
	asked := []int{-3, -1, 0, 1, 2, 7, math.MaxInt, math.MinInt}
	var l []api.Entry
	for i, e := range entries {
		more, err := Push(l, e)
		if !slices.Equal(more, entries[:i+1]) || err != api.OK {
			t.Fatalf("Push(%v, %v) = %v, %d", l, e, more, err)
		}
		l = more
		check(t, l, asked)
	}
	for _, e := range list(in(1), at(0), api.Entry{}) {
		if more, err := Push(l, e); len(more) != 0 || err != api.ErrDeep {
			t.Errorf("Push(%v, %v) = %v, %d; want none, %d", l, e, more, err, api.ErrDeep)
		}
	}
	for i := len(entries) - 1; i >= 0; i-- {
		less, last, err := Pop(l)
		if !slices.Equal(less, entries[:i]) || last != entries[i] || err != api.OK {
			t.Fatalf("Pop(%v) = %v, %v, %d", l, less, last, err)
		}
		l = less
		check(t, l, asked)
	}
	if less, last, err := Pop(l); len(less) != 0 || last != (api.Entry{}) || err != api.ErrEmpty {
		t.Errorf("Pop(%v) = %v, %v, %d; want none, none, %d", l, less, last, err, api.ErrEmpty)
	}
}

// P9.2: lists of each length: five may have one more, six and more not; all but none have a last one.
func TestHowDeep(t *testing.T) {
	var l []api.Entry
	for n := range 40 {
		more, err := Push(l, in(100))
		if want := n <= 5; (err == api.OK) != want || (len(more) == n+1) != want {
			t.Errorf("Push of %d entries = %v, %d", n, more, err)
		}
		less, last, err := Pop(l)
		if want := n >= 1; (err == api.OK) != want || want && (len(less) != n-1 || last != at(n-1)) {
			t.Errorf("Pop of %d entries = %v, %v, %d", n, less, last, err)
		}
		l = append(l, at(n))
	}
}

// R7: two pushed behind one list, be there room or not, are each their own.
func TestTwoPushed(t *testing.T) {
	base, _ := Push(nil, in(1))
	for range 4 {
		for _, l := range [][]api.Entry{base, roomy(base), slices.Clip(base)} {
			one, _ := Push(l, in(5))
			other, _ := Push(l, at(6))
			if one[len(l)] != in(5) || other[len(l)] != at(6) || !slices.Equal(one[:len(l)], base) || !slices.Equal(other[:len(l)], base) {
				t.Fatalf("behind %v: %v and %v", base, one, other)
			}
			spoil(one)
			if other[len(l)] != at(6) || !slices.Equal(l, base) {
				t.Fatalf("behind %v: %v, when another one was written into", l, other)
			}
		}
		base, _ = Push(base, in(2))
	}
}

// R7: what Push and Pop tell, and what they were handed, don't see what becomes of each other.
func TestEachItsOwn(t *testing.T) {
	for n := range 9 {
		var l []api.Entry
		for i := range n {
			l = append(l, api.Entry{Scope: i + 1, Counted: i%2 == 0})
		}
		own := roomy(l)
		more, _ := Push(own, in(50))
		wantMore := slices.Clone(more)
		less, _, _ := Pop(own)
		wantLess := slices.Clone(less)

		spoil(own)
		if !slices.Equal(more, wantMore) || !slices.Equal(less, wantLess) {
			t.Fatalf("%v: %v and %v, when what was handed in was written into", l, more, less)
		}
		own = roomy(l)
		more, _ = Push(own, in(50))
		less, _, _ = Pop(own)
		spoil(more)
		if !slices.Equal(less, wantLess) {
			t.Fatalf("%v: %v, when what Push told was written into", l, less)
		}
		wantAsItWas(t, own, l)
		spoil(less)
		wantAsItWas(t, own, l)
	}
}

// P9.3: whatever is entered, and chosen of what is reached, and left again: what was reached where a scope was entered, and all above that, stays above it.
func TestStaysAbove(t *testing.T) {
	var each func(l []api.Entry, over map[int][]int)
	each = func(l []api.Entry, over map[int][]int) {
		for below, ups := range over {
			for _, up := range ups {
				if !Above(l, up, below) {
					t.Fatalf("Above(%v, %d, %d) = false: it was entered from there", l, up, below)
				}
			}
		}
		if len(l) == 5 {
			return
		}
		for scope := range 5 {
			next, more := api.Entry{Scope: scope}, over
			if !Reach(l, scope) {
				// Entered for the first time: from where the thread is, which is below all that this was entered from.
				next = in(scope)
				more = map[int][]int{}
				for below, ups := range over {
					more[below] = ups
				}
				more[scope] = append(slices.Clone(over[Area(l)]), Area(l))
			}
			with, err := Push(l, next)
			if err != api.OK {
				t.Fatalf("Push(%v, %v): %d", l, next, err)
			}
			each(with, more)
			back, last, err := Pop(with)
			if !slices.Equal(back, l) || last != next || err != api.OK {
				t.Fatalf("Pop(%v) = %v, %v, %d", with, back, last, err)
			}
		}
	}
	each(nil, map[int][]int{})
}

// P9.3: a scope that is entered once more, from elsewhere, stays below where it was entered first.
func TestEnteredAgain(t *testing.T) {
	l := list(in(1), in(2), at(1), in(3))
	for _, scope := range []int{1, 2, 3} {
		again, err := Push(l, in(scope))
		if err != api.OK {
			t.Fatalf("Push(%v, %d): %d", l, scope, err)
		}
		for _, below := range []int{1, 2, 3} {
			if Parent(again, below) != Parent(l, below) {
				t.Errorf("Parent(%v, %d) = %d; it was %d", again, below, Parent(again, below), Parent(l, below))
			}
			if !Above(again, 1, below) {
				t.Errorf("Above(%v, 1, %d) = false", again, below)
			}
		}
	}
}
