package thing

import (
	"bytes"
	"math"
	"math/rand"
	"slices"
	"testing"

	"penfold/api"
	"penfold/arena"
	"penfold/ref"
)

// lastEpoch is the last epoch, written out, top what each head's first word has in its topmost byte, and doneBit what it has more, if it is done.
const (
	lastEpoch = 16777215
	top       = 165 * 72057594037927936
	doneBit   = 281474976710656
)

// words are a head's two words, as the document sums them.
func words(h api.Head) (uint64, uint64) {
	first := uint64(h.Size) + uint64(h.Slots)*4294967296 + uint64(h.Tag)*1099511627776 + top
	if h.Done {
		first += doneBit
	}
	return first, uint64(h.Scope) + uint64(h.Epoch)*256
}

// fresh is an arena of n bytes, all 0.
func fresh(t *testing.T, n int) *arena.Arena {
	t.Helper()
	a, err := arena.New(n)
	if a == nil || err != api.OK {
		t.Fatalf("arena.New(%d) = %v, %d", n, a, err)
	}
	return a
}

// filled has words that are no head's, none of them 0, and no two alike.
func filled(t *testing.T, n int) *arena.Arena {
	t.Helper()
	a := fresh(t, n)
	for at := 0; at < n; at += 8 {
		put(t, a, at, 0x0102030405000000+uint64(at))
	}
	return a
}

func put(t *testing.T, a *arena.Arena, at int, x uint64) {
	t.Helper()
	if err := a.Put(at, x); err != api.OK {
		t.Fatalf("Put(%d, %d) = %d", at, x, err)
	}
}

func word(t *testing.T, a *arena.Arena, at int) uint64 {
	t.Helper()
	x, err := a.Word(at)
	if err != api.OK {
		t.Fatalf("Word(%d) = %d", at, err)
	}
	return x
}

// lay puts a head down.
func lay(t *testing.T, a *arena.Arena, at int, h api.Head) {
	t.Helper()
	first, second := words(h)
	put(t, a, at, first)
	put(t, a, at+8, second)
}

// layAll puts heads down, one behind the other, and tells where each one begins and where the last one ends.
func layAll(t *testing.T, a *arena.Arena, base int, heads []api.Head) ([]int, int) {
	t.Helper()
	var places []int
	for _, h := range heads {
		lay(t, a, base, h)
		places = append(places, base)
		base += h.Size * 8
	}
	return places, base
}

// image are all bytes, asked for one by one.
func image(t *testing.T, a *arena.Arena) []byte {
	t.Helper()
	l := make([]byte, a.Len())
	for at := range l {
		b, err := a.Byte(at)
		if err != api.OK {
			t.Fatalf("Byte(%d) = %d", at, err)
		}
		l[at] = b
	}
	return l
}

func same(t *testing.T, a *arena.Arena, want []byte, what string, args ...any) {
	t.Helper()
	if got := image(t, a); !bytes.Equal(got, want) {
		t.Errorf(what+": the bytes are\n%v, want\n%v", append(args, got, want)...)
	}
}

// several are heads of each number of slots, done and not done, of the least size and of greater ones.
func several() []api.Head {
	var l []api.Head
	for slots := range 7 {
		for _, done := range []bool{false, true} {
			for _, more := range []int{0, 1, 3} {
				n := len(l)
				l = append(l, api.Head{Size: 2 + slots + more, Slots: slots, Tag: n % 8, Done: done, Scope: n * 3 % 8, Epoch: n * 1001})
			}
		}
	}
	return append(l, api.Head{Size: 72}, api.Head{Size: 72, Slots: 6, Tag: 7, Done: true, Scope: 7, Epoch: lastEpoch}, api.Head{Size: 2})
}

// far are numbers far from all bounds: near each power of two, and near both ends.
func far() []int {
	var l []int
	for bit := 17; bit < 63; bit++ {
		for near := -9; near <= 9; near++ {
			l = append(l, 1<<bit+near, -1<<bit+near)
		}
	}
	for near := range 100 {
		l = append(l, math.MaxInt-near, math.MinInt+near)
	}
	return l
}

// wantAt is what the document says of the words there, by dividing them.
func wantAt(t *testing.T, a *arena.Arena, at int) (api.Head, api.Errno) {
	t.Helper()
	if at < 0 || at%8 != 0 || at >= a.Len()-8 {
		return api.Head{}, api.ErrHandle
	}
	first, second := word(t, a, at), word(t, a, at+8)
	size, slots, tag := first%4294967296, first/4294967296%256, first/1099511627776%256
	done, mark := first/doneBit%256, first/72057594037927936
	scope, epoch := second%256, second/256
	if mark != 165 || done > 1 || slots > 6 || size < 2+slots || size > 72 || tag > 7 || scope > 7 || epoch > lastEpoch {
		return api.Head{}, api.ErrHandle
	}
	return api.Head{Size: int(size), Slots: int(slots), Tag: int(tag), Done: done == 1, Scope: int(scope), Epoch: int(epoch)}, api.OK
}

// wantWalk takes of what is left what each object has, till nothing is left.
func wantWalk(t *testing.T, a *arena.Arena, base, left int) ([]int, api.Errno) {
	t.Helper()
	if left < 0 {
		return nil, api.ErrHandle
	}
	var places []int
	for at := base; left > 0; {
		h, err := wantAt(t, a, at)
		if err != api.OK || h.Size*8 > left {
			return nil, api.ErrHandle
		}
		places = append(places, at)
		at += h.Size * 8
		left -= h.Size * 8
	}
	return places, api.OK
}

func checkAt(t *testing.T, a *arena.Arena, at int) {
	t.Helper()
	want, wantErr := wantAt(t, a, at)
	if h, err := At(a, at); h != want || err != wantErr {
		t.Errorf("At(%d) = %v, %d; want %v, %d", at, h, err, want, wantErr)
	}
}

func checkSlot(t *testing.T, a *arena.Arena, at, slot int) {
	t.Helper()
	h, wantErr := wantAt(t, a, at)
	want := 0
	if wantErr == api.OK && (slot < 0 || slot >= h.Slots) {
		wantErr = api.ErrSlot
	}
	if wantErr == api.OK {
		want = at + 16 + 8*slot
	}
	if n, err := Slot(a, at, slot); n != want || err != wantErr {
		t.Errorf("Slot(%d, %d) = %d, %d; want %d, %d", at, slot, n, err, want, wantErr)
	}
}

func checkWalk(t *testing.T, a *arena.Arena, base, used int) {
	t.Helper()
	want, wantErr := wantWalk(t, a, base, used)
	if l, err := Walk(a, base, used); !slices.Equal(l, want) || err != wantErr {
		t.Errorf("Walk(%d, %d) = %v, %d; want %v, %d", base, used, l, err, want, wantErr)
	}
}

// refused asks all of P8.1 of a place where no object is: each is ErrHandle, whatever the slot, and nothing changes.
func refused(t *testing.T, a *arena.Arena, at int) {
	t.Helper()
	before := image(t, a)
	if h, err := At(a, at); h != (api.Head{}) || err != api.ErrHandle {
		t.Errorf("At(%d) = %v, %d; want none, %d", at, h, err, api.ErrHandle)
	}
	for _, slot := range []int{0, 1, 5, -1, 6, 7, math.MaxInt, math.MinInt} {
		if n, err := Slot(a, at, slot); n != 0 || err != api.ErrHandle {
			t.Errorf("Slot(%d, %d) = %d, %d; want 0, %d", at, slot, n, err, api.ErrHandle)
		}
	}
	if err := Mark(a, at); err != api.ErrHandle {
		t.Errorf("Mark(%d) = %d; want %d", at, err, api.ErrHandle)
	}
	same(t, a, before, "At, Slot, Mark of %d", at)
}

// P8.1: words as they are written out, and the head that they are.
func TestAtWrittenOut(t *testing.T) {
	for _, x := range []struct {
		first, second uint64
		h             api.Head
	}{
		{11889503016258109442, 0, api.Head{Size: 2}},
		{11889503016258109512, 0, api.Head{Size: 72}},
		{11889503042027913224, 0, api.Head{Size: 8, Slots: 6}},
		{11889784491234820098, 0, api.Head{Size: 2, Done: true}},
		{11889503016258109442, 4294967040, api.Head{Size: 2, Epoch: lastEpoch}},
		{11889505219576332291, 513, api.Head{Size: 3, Slots: 1, Tag: 2, Scope: 1, Epoch: 2}},
	} {
		for _, at := range []int{0, 8, 24, 48} {
			a := filled(t, 64)
			put(t, a, at, x.first)
			put(t, a, at+8, x.second)
			if h, err := At(a, at); h != x.h || err != api.OK {
				t.Errorf("At(%d) of %d, %d = %v, %d; want %v", at, x.first, x.second, h, err, x.h)
			}
		}
	}
}

// P8.1, P8.2: an arena with one object, at each place that it may have.
func TestOneObject(t *testing.T) {
	for _, h := range several() {
		for at := 0; at <= 112; at += 8 {
			a := filled(t, 128)
			lay(t, a, at, h)
			if got, err := At(a, at); got != h || err != api.OK {
				t.Errorf("At(%d) = %v, %d; want %v", at, got, err, h)
			}
			for other := -24; other <= 152; other++ {
				if other != at {
					refused(t, a, other)
				}
			}
			if l, err := Walk(a, at, h.Size*8); !slices.Equal(l, []int{at}) || err != api.OK {
				t.Errorf("%v: Walk(%d, %d) = %v, %d", h, at, h.Size*8, l, err)
			}
		}
	}
}

// P8.1: of several objects each tells its own head, wherever they begin, and no other place tells any.
func TestAtOfSeveral(t *testing.T) {
	heads := several()
	for _, base := range []int{0, 8, 64, 200} {
		a := filled(t, 8192)
		places, _ := layAll(t, a, base, heads)
		for i, at := range places {
			if h, err := At(a, at); h != heads[i] || err != api.OK {
				t.Errorf("At(%d) = %v, %d; want %v", at, h, err, heads[i])
			}
		}
		before := image(t, a)
		for at := -100; at <= a.Len()+100; at++ {
			h, err := At(a, at)
			if !slices.Contains(places, at) && (h != api.Head{} || err != api.ErrHandle) {
				t.Errorf("At(%d) = %v, %d; want none, %d", at, h, err, api.ErrHandle)
			}
		}
		same(t, a, before, "At of each place")
	}
}

// P8.1: a head is two words: where the second one would be beyond the last word, there is none.
func TestHeadAtTheEnd(t *testing.T) {
	for _, n := range []int{8, 16, 24, 64, 576, 65536} {
		a := filled(t, n)
		first, second := words(api.Head{Size: 3, Slots: 1, Tag: 5})
		put(t, a, n-8, first)
		refused(t, a, n-8)
		if l, err := Walk(a, n-8, 24); l != nil || err != api.ErrHandle {
			t.Errorf("%d bytes: Walk(%d, 24) = %v, %d", n, n-8, l, err)
		}
		if n < 16 {
			continue
		}
		put(t, a, n-16, first)
		put(t, a, n-8, second)
		if h, err := At(a, n-16); h != (api.Head{Size: 3, Slots: 1, Tag: 5}) || err != api.OK {
			t.Errorf("%d bytes: At(%d) = %v, %d", n, n-16, h, err)
		}
		refused(t, a, n-8)
	}
}

// P8.1: an arena of no bytes, or of one word, has no object.
func TestNoRoom(t *testing.T) {
	for _, n := range []int{0, 8} {
		a := fresh(t, n)
		for at := -32; at <= 32; at++ {
			refused(t, a, at)
		}
		for _, at := range far() {
			refused(t, a, at)
		}
	}
}

// P8.1: places that are far from all words, though an object is at each place that they would wrap round to.
func TestFarPlaces(t *testing.T) {
	a := fresh(t, 64)
	layAll(t, a, 0, []api.Head{{Size: 2}, {Size: 2, Scope: 1}, {Size: 2, Tag: 1}, {Size: 2, Done: true}})
	for _, at := range far() {
		refused(t, a, at)
	}
	for _, at := range []int{-8, -16, -64, 64, 72, 80, 1, 7, 9, 15, 17, -1, -7, 57, 63} {
		refused(t, a, at)
	}
	// Just these objects are there yet.
	for i, h := range []api.Head{{Size: 2}, {Size: 2, Scope: 1}, {Size: 2, Tag: 1}, {Size: 2, Done: true}} {
		if got, err := At(a, 16*i); got != h || err != api.OK {
			t.Errorf("At(%d) = %v, %d; want %v", 16*i, got, err, h)
		}
	}
}

// P8.1: words that are no head's.
func TestNoHead(t *testing.T) {
	const good, second = top + 3 + 1<<32 + 2<<40, 513
	handle, err := ref.Pack(api.Ref{Scope: 1, Epoch: 2, At: 16})
	if err != api.OK {
		t.Fatal(err)
	}
	for _, x := range []struct{ first, second uint64 }{
		{0, 0}, {0, second}, {handle, second}, {handle, handle},
		{math.MaxUint64, 0}, {math.MaxUint64, math.MaxUint64}, {good, math.MaxUint64},
		{top, 0}, {top + 1, 0}, {top + 73, 0}, // Size 0, 1, 73
		{top + 2 + 1<<32, 0}, {top + 7 + 6<<32, 0}, // fewer words than the slots take
		{top + 72 + 7<<32, 0}, {top + 2 + 8<<40, 0}, // 7 slots, the tag 8
		{top + 2 + 2<<48, 0}, {top + 2 + 255<<48, 0}, // done, but not 1
		{good, 8}, {good, 255}, {good, 1 << 32}, {good, 1 << 63}, // the scope 8, 255, bits above an epoch
		{second, good}, {good - top, second}, // the words in the other order, without the topmost byte
	} {
		a := filled(t, 64)
		put(t, a, 16, x.first)
		put(t, a, 24, x.second)
		put(t, a, 32, 0)
		refused(t, a, 16)
		if l, err := Walk(a, 16, 24); l != nil || err != api.ErrHandle {
			t.Errorf("%d, %d: Walk(16, 24) = %v, %d", x.first, x.second, l, err)
		}
	}
}

// P8.1: one bit of a head's words is turned: another head's, or none's.
func TestOneBit(t *testing.T) {
	for _, h := range several() {
		first, second := words(h)
		a := filled(t, 64)
		for bit := range 64 {
			put(t, a, 24, first^1<<bit)
			put(t, a, 32, second)
			checkAt(t, a, 24)
			put(t, a, 24, first)
			put(t, a, 32, second^1<<bit)
			checkAt(t, a, 24)
		}
	}
}

// P8.1: slots as they are written out.
func TestSlotWrittenOut(t *testing.T) {
	a := fresh(t, 256)
	layAll(t, a, 16, []api.Head{{Size: 8, Slots: 6}, {Size: 2}, {Size: 5, Slots: 1}})
	for _, x := range []struct {
		at, slot, n int
		err         api.Errno
	}{
		{16, 0, 32, api.OK}, {16, 1, 40, api.OK}, {16, 2, 48, api.OK}, {16, 3, 56, api.OK}, {16, 4, 64, api.OK}, {16, 5, 72, api.OK},
		{16, 6, 0, api.ErrSlot}, {16, -1, 0, api.ErrSlot},
		{80, 0, 0, api.ErrSlot}, {80, -1, 0, api.ErrSlot}, {80, 1, 0, api.ErrSlot}, // an object of no slots
		{96, 0, 112, api.OK}, {96, 1, 0, api.ErrSlot}, {96, 2, 0, api.ErrSlot}, // words of its bytes are no slots
		{0, 0, 0, api.ErrHandle}, {24, 0, 0, api.ErrHandle}, {32, 9, 0, api.ErrHandle}, {17, 0, 0, api.ErrHandle}, {256, 0, 0, api.ErrHandle},
	} {
		if n, err := Slot(a, x.at, x.slot); n != x.n || err != x.err {
			t.Errorf("Slot(%d, %d) = %d, %d; want %d, %d", x.at, x.slot, n, err, x.n, x.err)
		}
	}
}

// P8.1: each slot of each object, from well below the first to well above the last, and numbers far from both; none of it changes a byte.
func TestSlotOfEach(t *testing.T) {
	a := filled(t, 8192)
	places, _ := layAll(t, a, 24, several())
	before := image(t, a)
	for _, at := range places {
		for slot := -100; slot <= 100; slot++ {
			checkSlot(t, a, at, slot)
		}
		for _, slot := range far() {
			checkSlot(t, a, at, slot)
		}
	}
	same(t, a, before, "Slot of each")
}

// P8.1: a slot that, times 8, would wrap round to one that there is, is none.
func TestSlotDoesNotWrap(t *testing.T) {
	a := fresh(t, 128)
	lay(t, a, 8, api.Head{Size: 8, Slots: 6})
	for slot := range 6 {
		for _, wide := range []int{1 << 61, -1 << 61, 1 << 62, -1 << 62, math.MinInt} {
			if n, err := Slot(a, 8, slot+wide); n != 0 || err != api.ErrSlot {
				t.Errorf("Slot(8, %d) = %d, %d; want 0, %d", slot+wide, n, err, api.ErrSlot)
			}
		}
	}
}

// P8.1: of a head whose object has not all of its words, the slot's place is told as of any other.
func TestSlotBeyondTheArena(t *testing.T) {
	a := fresh(t, 64)
	lay(t, a, 48, api.Head{Size: 8, Slots: 6})
	for slot := range 6 {
		if n, err := Slot(a, 48, slot); n != 64+8*slot || err != api.OK {
			t.Errorf("Slot(48, %d) = %d, %d; want %d", slot, n, err, 64+8*slot)
		}
	}
}

// P8.1: the slots of objects that stand one behind the other are words of their own.
func TestSlotsAreTheirOwn(t *testing.T) {
	heads := several()
	a := fresh(t, 8192)
	places, end := layAll(t, a, 8, heads)
	owner := map[int]int{}
	for i, at := range places {
		last := end
		if i+1 < len(places) {
			last = places[i+1]
		}
		for slot := range heads[i].Slots {
			n, err := Slot(a, at, slot)
			if other, seen := owner[n]; seen || err != api.OK || n < at+16 || n+8 > last || n%8 != 0 {
				t.Errorf("the object %d at %d: Slot %d is %d, %d; seen %v, of %d", i, at, slot, n, err, seen, other)
			}
			owner[n] = i
		}
	}
}

// P8.1: a mark as it is written out.
func TestMarkWrittenOut(t *testing.T) {
	a := filled(t, 64)
	put(t, a, 16, 11889505219576332291)
	put(t, a, 24, 513)
	want := image(t, a)
	if err := Mark(a, 16); err != api.OK {
		t.Errorf("Mark(16) = %d", err)
	}
	// The byte of 2^48 is the seventh one, as the lowest stands first.
	want[16+6] = 1
	same(t, a, want, "Mark(16)")
	if x := word(t, a, 16); x != 11889505219576332291+281474976710656 {
		t.Errorf("the first word is %d", x)
	}
	if h, err := At(a, 16); h != (api.Head{Size: 3, Slots: 1, Tag: 2, Done: true, Scope: 1, Epoch: 2}) || err != api.OK {
		t.Errorf("At(16) = %v, %d", h, err)
	}
}

// P8.1: each object is marked, once and twice: its first word is that of the same Head with Done, and no other word changes.
func TestMarkOfEach(t *testing.T) {
	heads := several()
	for i := range heads {
		a := filled(t, 8192)
		places, end := layAll(t, a, 40, heads)
		done := heads[i]
		done.Done = true
		first, _ := words(done)
		want := image(t, a)
		for b := range 8 {
			want[places[i]+b] = byte(first >> (8 * b))
		}
		for _, time := range []string{"once", "twice"} {
			if err := Mark(a, places[i]); err != api.OK {
				t.Errorf("%s: Mark(%d) = %d", time, places[i], err)
			}
			same(t, a, want, "%s: Mark(%d)", time, places[i])
			if h, err := At(a, places[i]); h != done || err != api.OK {
				t.Errorf("%s: At(%d) = %v, %d; want %v", time, places[i], h, err, done)
			}
		}
		if l, err := Walk(a, 40, end-40); !slices.Equal(l, places) || err != api.OK {
			t.Errorf("Mark(%d): the walk is %v, %d; want %v", places[i], l, err, places)
		}
	}
}

// P8.1: all are marked, the last one first.
func TestMarkAll(t *testing.T) {
	heads := several()
	a := filled(t, 8192)
	places, _ := layAll(t, a, 0, heads)
	for i, at := range slices.Backward(places) {
		if err := Mark(a, at); err != api.OK {
			t.Errorf("Mark(%d) = %d", at, err)
		}
		for k, other := range places {
			want := heads[k]
			want.Done = want.Done || k >= i
			if h, err := At(a, other); h != want || err != api.OK {
				t.Errorf("behind Mark(%d): At(%d) = %v, %d; want %v", at, other, h, err, want)
			}
		}
	}
}

// P8.1: where no object begins, none is marked.
func TestMarkRefused(t *testing.T) {
	a := filled(t, 1024)
	places, _ := layAll(t, a, 8, several()[:20])
	before := image(t, a)
	for at := -100; at <= 1124; at++ {
		if slices.Contains(places, at) {
			continue
		}
		if err := Mark(a, at); err != api.ErrHandle {
			t.Errorf("Mark(%d) = %d; want %d", at, err, api.ErrHandle)
		}
	}
	for _, at := range far() {
		if err := Mark(a, at); err != api.ErrHandle {
			t.Errorf("Mark(%d) = %d; want %d", at, err, api.ErrHandle)
		}
	}
	same(t, a, before, "what is refused")
}

// P8.2: walks as they are written out.
func TestWalkWrittenOut(t *testing.T) {
	a := fresh(t, 160)
	layAll(t, a, 16, []api.Head{{Size: 4, Slots: 1}, {Size: 2, Done: true}, {Size: 8, Slots: 6, Epoch: 9}})
	for _, x := range []struct {
		base, used int
		want       []int
		err        api.Errno
	}{
		{16, 112, []int{16, 48, 64}, api.OK}, {16, 48, []int{16, 48}, api.OK}, {16, 32, []int{16}, api.OK},
		{48, 80, []int{48, 64}, api.OK}, {48, 16, []int{48}, api.OK}, {64, 64, []int{64}, api.OK},
		{16, 0, nil, api.OK}, {0, 0, nil, api.OK}, {99, 0, nil, api.OK}, // none is there, wherever
		{16, 104, nil, api.ErrHandle}, {16, 111, nil, api.ErrHandle}, {16, 40, nil, api.ErrHandle}, {16, 8, nil, api.ErrHandle}, {16, 1, nil, api.ErrHandle}, // the last one ends beyond
		{16, 113, nil, api.ErrHandle}, {16, 120, nil, api.ErrHandle}, {16, 144, nil, api.ErrHandle}, // behind the last one there is none
		{0, 128, nil, api.ErrHandle}, {24, 104, nil, api.ErrHandle}, {20, 112, nil, api.ErrHandle}, // no object begins there
		{16, -1, nil, api.ErrHandle}, {16, -8, nil, api.ErrHandle}, {64, -48, nil, api.ErrHandle}, {128, -112, nil, api.ErrHandle},
		{160, 8, nil, api.ErrHandle}, {-16, 32, nil, api.ErrHandle},
	} {
		if l, err := Walk(a, x.base, x.used); !slices.Equal(l, x.want) || err != x.err {
			t.Errorf("Walk(%d, %d) = %v, %d; want %v, %d", x.base, x.used, l, err, x.want, x.err)
		}
	}
}

// P8.2: from each object on, up to each object's end.
func TestWalkFromEachToEach(t *testing.T) {
	a := filled(t, 8192)
	places, end := layAll(t, a, 56, several())
	ends := append(slices.Clone(places), end)
	before := image(t, a)
	for i := range places {
		for k := i; k <= len(places); k++ {
			if l, err := Walk(a, places[i], ends[k]-places[i]); !slices.Equal(l, places[i:k]) || err != api.OK {
				t.Errorf("Walk(%d, %d) = %v, %d; want %v", places[i], ends[k]-places[i], l, err, places[i:k])
			}
		}
		// One word less, or one byte less or more, and the last one does not end there.
		for _, near := range []int{-8, -7, -1, 1, 7} {
			used := end - places[i] + near
			if l, err := Walk(a, places[i], used); l != nil || err != api.ErrHandle {
				t.Errorf("Walk(%d, %d) = %v, %d; want none, %d", places[i], used, l, err, api.ErrHandle)
			}
		}
	}
	same(t, a, before, "walks")
}

// P8.2: each base and each used of a small arena, within and well beyond.
func TestWalkOfEach(t *testing.T) {
	for _, heads := range [][]api.Head{
		{},
		{{Size: 2}},
		{{Size: 2}, {Size: 3, Slots: 1}, {Size: 4}, {Size: 2, Done: true}},
		{{Size: 5, Slots: 2}, {Size: 2}, {Size: 4, Tag: 1}, {Size: 4, Scope: 7}}, // the last one has all words that are left
		{{Size: 6, Slots: 4}, {Size: 7, Slots: 1}, {Size: 9}},                    // the last one ends beyond the arena
	} {
		a := filled(t, 120)
		layAll(t, a, 0, heads)
		before := image(t, a)
		for base := -20; base <= 150; base++ {
			for used := -20; used <= 260; used++ {
				checkWalk(t, a, base, used)
			}
		}
		same(t, a, before, "walks")
	}
}

// P8.2: of used 0 nothing is asked of base, of used below 0 nothing helps.
func TestWalkOfNothing(t *testing.T) {
	for _, n := range []int{0, 8, 64} {
		a := filled(t, n)
		bases := far()
		for base := -100; base <= 200; base++ {
			bases = append(bases, base)
		}
		for _, base := range bases {
			if l, err := Walk(a, base, 0); len(l) != 0 || err != api.OK {
				t.Errorf("%d bytes: Walk(%d, 0) = %v, %d; want none, OK", n, base, l, err)
			}
			for _, used := range []int{-1, -7, -8, -16, -base, math.MinInt, math.MinInt + 1, math.MinInt + 8} {
				if l, err := Walk(a, base, used); used < 0 && (l != nil || err != api.ErrHandle) {
					t.Errorf("%d bytes: Walk(%d, %d) = %v, %d; want none, %d", n, base, used, l, err, api.ErrHandle)
				}
			}
		}
	}
}

// P8.2: numbers far from all places: also those which together are no number, or are the end of an object when they wrap round.
func TestWalkFarBeyond(t *testing.T) {
	a := fresh(t, 64)
	layAll(t, a, 0, []api.Head{{Size: 2}, {Size: 2}, {Size: 2}, {Size: 2}})
	wrong := func(base, used int) {
		t.Helper()
		if l, err := Walk(a, base, used); l != nil || err != api.ErrHandle {
			t.Errorf("Walk(%d, %d) = %v, %d; want none, %d", base, used, l, err, api.ErrHandle)
		}
	}
	for _, n := range far() {
		for _, base := range []int{0, 8, 16, 48, 56, 64, -8, -16} {
			wrong(base, n)
		}
		for _, used := range []int{1, 8, 16, 32, 64, -16} {
			wrong(n, used)
		}
		wrong(n, math.MaxInt)
		wrong(n, math.MinInt)
		for _, end := range []int{0, 16, 32, 64} {
			// Base and used come to end, by wrapping round or not.
			wrong(n, end-n)
		}
	}
}

// P8.2: words that are no head's stand behind some that are: none of it is told, wherever they stand.
func TestWalkComesToNoHead(t *testing.T) {
	heads := several()
	for i := range heads {
		a := filled(t, 8192)
		places, end := layAll(t, a, 8, heads)
		put(t, a, places[i], 0)
		if l, err := Walk(a, 8, end-8); l != nil || err != api.ErrHandle {
			t.Errorf("no head at %d: Walk = %v, %d; want none, %d", places[i], l, err, api.ErrHandle)
		}
		if l, err := Walk(a, 8, places[i]-8); !slices.Equal(l, places[:i]) || err != api.OK {
			t.Errorf("no head at %d: the walk up to there is %v, %d; want %v", places[i], l, err, places[:i])
		}
		if i+1 < len(places) {
			if l, err := Walk(a, places[i+1], end-places[i+1]); !slices.Equal(l, places[i+1:]) || err != api.OK {
				t.Errorf("no head at %d: the walk behind it is %v, %d; want %v", places[i], l, err, places[i+1:])
			}
		}
	}
}

// P8.2: only where objects begin is asked: words of slots and of bytes may be what they are, a head's, too.
func TestWalkSeesNoWordWithin(t *testing.T) {
	a := fresh(t, 256)
	places, end := layAll(t, a, 0, []api.Head{{Size: 8, Slots: 2}, {Size: 8}, {Size: 8, Slots: 6}})
	for _, at := range places {
		for k := 2; k < 8; k += 2 {
			lay(t, a, at+8*k, api.Head{Size: 2, Tag: k})
		}
	}
	if l, err := Walk(a, 0, end); !slices.Equal(l, places) || err != api.OK {
		t.Errorf("Walk(0, %d) = %v, %d; want %v", end, l, err, places)
	}
	// Begun at such a word it is another walk.
	if l, err := Walk(a, 16, 48); !slices.Equal(l, []int{16, 32, 48}) || err != api.OK {
		t.Errorf("Walk(16, 48) = %v, %d", l, err)
	}
}

// P8.2: an object whose head has words, but whose end has none, is walked where used says so.
func TestWalkToBeyondTheArena(t *testing.T) {
	a := fresh(t, 64)
	layAll(t, a, 32, []api.Head{{Size: 2}, {Size: 72}})
	if l, err := Walk(a, 32, 16+576); !slices.Equal(l, []int{32, 48}) || err != api.OK {
		t.Errorf("Walk(32, 592) = %v, %d", l, err)
	}
	for _, used := range []int{32, 591, 593, 600, 608} {
		if l, err := Walk(a, 32, used); l != nil || err != api.ErrHandle {
			t.Errorf("Walk(32, %d) = %v, %d; want none, %d", used, l, err, api.ErrHandle)
		}
	}
}

// P8.2: the greatest arena, full of the least objects, and of the greatest.
func TestWalkOfTheGreatest(t *testing.T) {
	for _, size := range []int{2, 64, 72} {
		a := fresh(t, 65536)
		heads := make([]api.Head, 65536/8/size)
		for i := range heads {
			heads[i] = api.Head{Size: size, Tag: i % 8}
		}
		places, end := layAll(t, a, 0, heads)
		if l, err := Walk(a, 0, end); !slices.Equal(l, places) || err != api.OK {
			t.Errorf("Size %d: %d places, %d; want %d", size, len(l), err, len(places))
		}
		if l, err := Walk(a, 0, end+8); l != nil || err != api.ErrHandle {
			t.Errorf("Size %d: beyond: %d places, %d", size, len(l), err)
		}
	}
}

// P8.2, R7: what is told is the caller's own.
func TestWalkIsTheCallersOwn(t *testing.T) {
	a := fresh(t, 64)
	places, _ := layAll(t, a, 0, []api.Head{{Size: 2}, {Size: 3}, {Size: 3}})
	before := image(t, a)
	one, _ := Walk(a, 0, 64)
	two, _ := Walk(a, 0, 64)
	for i := range one {
		one[i] = -1
	}
	_ = append(one[:1], 77)
	if three, err := Walk(a, 0, 64); !slices.Equal(two, places) || !slices.Equal(three, places) || err != api.OK {
		t.Errorf("the walks are %v and %v, %d; want %v", two, three, err, places)
	}
	same(t, a, before, "what is told is written into")
}

// P8.1, P8.2: arenas by chance, with a seed: heads, words that nearly are heads, and others, side by side.
func TestByChance(t *testing.T) {
	chance := rand.New(rand.NewSource(8))
	for range 300 {
		n := 8 * chance.Intn(60)
		a := fresh(t, n)
		for at := 0; at < n; at += 8 {
			switch chance.Intn(5) {
			case 0, 1:
				slots := chance.Intn(3)
				first, second := words(api.Head{Size: 2 + slots + chance.Intn(3), Slots: slots, Tag: chance.Intn(9), Done: chance.Intn(2) == 1, Scope: chance.Intn(9), Epoch: chance.Intn(99)})
				put(t, a, at, first)
				if at += 8; at < n {
					put(t, a, at, second)
				}
			case 2:
				put(t, a, at, chance.Uint64())
			case 3:
				put(t, a, at, chance.Uint64()&0x00010707_0000007f|top)
			}
		}
		before := image(t, a)
		for at := -16; at <= n+16; at++ {
			checkAt(t, a, at)
			for slot := -1; slot <= 7; slot++ {
				checkSlot(t, a, at, slot)
			}
		}
		for base := 0; base <= n; base += 8 {
			for used := -8; used <= 200; used += 8 {
				checkWalk(t, a, base, used)
			}
		}
		same(t, a, before, "all but Mark")
	}
}

// claimer claims objects in an arena whose first word tells how much of the extent from base on is used.
type claimer struct {
	a            *arena.Arena
	base, budget int
	places       []int
	heads        []api.Head
}

// claim tells whether there was room.
func (c *claimer) claim(t *testing.T, h api.Head) bool {
	t.Helper()
	first, second := words(h)
	used, ok, err := c.a.Claim(0, uint64(h.Size)*8, uint64(c.budget), c.base, first, second)
	if err != api.OK {
		t.Fatalf("Claim of %v: %d", h, err)
	}
	if ok {
		c.places = append(c.places, c.base+int(used))
		c.heads = append(c.heads, h)
	}
	return ok
}

// check holds the walk of what is used against what was claimed.
func (c *claimer) check(t *testing.T) {
	t.Helper()
	used := int(word(t, c.a, 0))
	if l, err := Walk(c.a, c.base, used); !slices.Equal(l, c.places) || err != api.OK {
		t.Fatalf("Walk(%d, %d) = %v, %d; claimed were %v", c.base, used, l, err, c.places)
	}
	for i, at := range c.places {
		if h, err := At(c.a, at); h != c.heads[i] || err != api.OK {
			t.Fatalf("At(%d) = %v, %d; claimed was %v", at, h, err, c.heads[i])
		}
	}
}

// P8.3: each object of each number of slots and each size, claimed till there is no more room: walked as it was, behind each claim.
func TestClaimedOfEachKind(t *testing.T) {
	for slots := range 7 {
		for size := 2 + slots; size <= 72; size++ {
			c := &claimer{a: fresh(t, 2048), base: 64, budget: 1984}
			c.check(t)
			for c.claim(t, api.Head{Size: size, Slots: slots, Tag: slots, Done: size%2 == 1, Scope: 3, Epoch: size}) {
				c.check(t)
			}
			c.check(t)
			if len(c.places) != 1984/8/size {
				t.Errorf("%d objects of Size %d", len(c.places), size)
			}
		}
	}
}

// P8.3: objects by chance, with a seed, in extents anywhere in the arena: their slots are written, some of them are marked, and they are walked as they were claimed.
func TestClaimedByChance(t *testing.T) {
	chance := rand.New(rand.NewSource(83))
	for range 200 {
		c := &claimer{a: fresh(t, 4096), base: 64 + 8*chance.Intn(200), budget: 8 * chance.Intn(290)}
		for range 60 {
			slots := chance.Intn(7)
			h := api.Head{Size: 2 + slots + chance.Intn(4), Slots: slots, Tag: chance.Intn(8), Done: chance.Intn(4) == 0, Scope: chance.Intn(8), Epoch: chance.Intn(lastEpoch + 1)}
			c.claim(t, h)
			c.check(t)
			c.touch(t, chance)
			c.check(t)
		}
	}
}

// touch writes into each slot of one of the objects, and marks one.
func (c *claimer) touch(t *testing.T, chance *rand.Rand) {
	t.Helper()
	if len(c.places) == 0 {
		return
	}
	i := chance.Intn(len(c.places))
	for slot := range c.heads[i].Slots {
		at, err := Slot(c.a, c.places[i], slot)
		if err != api.OK {
			t.Fatalf("Slot(%d, %d): %d", c.places[i], slot, err)
		}
		put(t, c.a, at, chance.Uint64())
	}
	k := chance.Intn(len(c.places))
	if err := Mark(c.a, c.places[k]); err != api.OK {
		t.Fatalf("Mark(%d): %d", c.places[k], err)
	}
	c.heads[k].Done = true
}

// P8.3: what was not let in is not walked, and what is claimed behind it is.
func TestRefusedClaim(t *testing.T) {
	c := &claimer{a: fresh(t, 256), base: 128, budget: 48}
	if !c.claim(t, api.Head{Size: 3, Slots: 1}) || c.claim(t, api.Head{Size: 4}) || !c.claim(t, api.Head{Size: 3, Tag: 1}) || c.claim(t, api.Head{Size: 2}) {
		t.Errorf("claimed were %v", c.places)
	}
	c.check(t)
	if l, err := Walk(c.a, 128, 48); !slices.Equal(l, []int{128, 152}) || err != api.OK {
		t.Errorf("Walk(128, 48) = %v, %d", l, err)
	}
}
