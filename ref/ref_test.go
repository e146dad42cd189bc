package ref

import (
	"math"
	"math/rand"
	"testing"

	"penfold/api"
)

// The last epoch, the last place, and the greatest handle, written out.
const (
	lastEpoch = 16777215
	lastAt    = 65528
	greatest  = 72057589860409343
)

// epochs and places are some that may be, the ends with them, and each bit alone.
func epochs() []int {
	l := []int{0, 3, 1000, 255, 256, 257, 65535, lastEpoch - 1, lastEpoch}
	for bit := range 24 {
		l = append(l, 1<<bit)
	}
	return l
}

func places() []int {
	l := []int{24, 40, 4088, 4104, 32776, 65512, 65520, lastAt}
	for bit := 3; bit < 16; bit++ {
		l = append(l, 1<<bit)
	}
	return l
}

// all are the Refs of each scope, and of these epochs and places.
func all() []api.Ref {
	var l []api.Ref
	for scope := range 8 {
		for _, epoch := range epochs() {
			for _, at := range places() {
				l = append(l, api.Ref{Scope: scope, Epoch: epoch, At: at})
			}
		}
	}
	return l
}

// may is what the document says of a Ref, told again.
func may(r api.Ref) bool {
	return r.Scope >= 0 && r.Scope <= 7 && r.Epoch >= 0 && r.Epoch <= lastEpoch && r.At >= 8 && r.At <= lastAt && r.At%8 == 0
}

// handle is what the document makes of the three parts.
func handle(r api.Ref) uint64 {
	return uint64(r.At)/8 + uint64(r.Scope)*16777216 + uint64(r.Epoch)*4294967296
}

// told is what the document says of a number, by dividing it.
func told(h uint64) (api.Ref, api.Errno) {
	words, scope, epoch := h%16777216, h/16777216%256, h/4294967296
	if words < 1 || words > 8191 || scope > 7 || epoch > lastEpoch {
		return api.Ref{}, api.ErrHandle
	}
	return api.Ref{Scope: int(scope), Epoch: int(epoch), At: int(words) * 8}, api.OK
}

// checkPack holds Pack against the document.
func checkPack(t *testing.T, r api.Ref) {
	t.Helper()
	want, wantErr := uint64(0), api.ErrArg
	if may(r) {
		want, wantErr = handle(r), api.OK
	}
	if h, err := Pack(r); h != want || err != wantErr {
		t.Errorf("Pack(%v) = %d, %d; want %d, %d", r, h, err, want, wantErr)
	}
}

// checkUnpack holds Unpack against the document.
func checkUnpack(t *testing.T, h uint64) {
	t.Helper()
	want, wantErr := told(h)
	if r, err := Unpack(h); r != want || err != wantErr {
		t.Errorf("Unpack(%d) = %v, %d; want %v, %d", h, r, err, want, wantErr)
	}
}

// P6.1: handles as they are written out.
func TestHandles(t *testing.T) {
	for _, x := range []struct {
		r api.Ref
		h uint64
	}{
		{api.Ref{Scope: 1, Epoch: 2, At: 16}, 8606711810}, // the chapter's example
		{api.Ref{At: 8}, 1},
		{api.Ref{At: lastAt}, 8191},
		{api.Ref{Scope: 1, At: 8}, 16777217},
		{api.Ref{Scope: 7, At: 8}, 117440513},
		{api.Ref{Epoch: 1, At: 8}, 4294967297},
		{api.Ref{Epoch: lastEpoch, At: 8}, 72057589742960641},
		{api.Ref{Scope: 7, Epoch: lastEpoch, At: lastAt}, greatest},
	} {
		if h, err := Pack(x.r); h != x.h || err != api.OK {
			t.Errorf("Pack(%v) = %d, %d; want %d", x.r, h, err, x.h)
		}
		if r, err := Unpack(x.h); r != x.r || err != api.OK {
			t.Errorf("Unpack(%d) = %v, %d; want %v", x.h, r, err, x.r)
		}
	}
}

// P6.1, P6.2: each one has a handle of its own, which is not 0 and tells it again.
func TestThereAndBack(t *testing.T) {
	whose := map[uint64]api.Ref{}
	for _, r := range all() {
		h, err := Pack(r)
		if h != handle(r) || h == 0 || err != api.OK {
			t.Errorf("Pack(%v) = %d, %d; want %d", r, h, err, handle(r))
		}
		if other, seen := whose[h]; seen && other != r {
			t.Errorf("%v and %v have one handle, %d", other, r, h)
		}
		whose[h] = r
		if back, err := Unpack(h); back != r || err != api.OK {
			t.Errorf("Unpack(%d) = %v, %d; want %v", h, back, err, r)
		}
	}
}

// P6.1, P6.2: of one epoch, all scopes and all places: as many handles as Refs.
func TestEachPlace(t *testing.T) {
	for _, epoch := range []int{0, 1, lastEpoch} {
		whose := map[uint64]api.Ref{}
		for scope := range 8 {
			for at := 8; at <= lastAt; at += 8 {
				r := api.Ref{Scope: scope, Epoch: epoch, At: at}
				h, err := Pack(r)
				if h != handle(r) || err != api.OK {
					t.Fatalf("Pack(%v) = %d, %d; want %d", r, h, err, handle(r))
				}
				if back, err := Unpack(h); back != r || err != api.OK {
					t.Fatalf("Unpack(%d) = %v, %d; want %v", h, back, err, r)
				}
				whose[h] = r
			}
		}
		if len(whose) != 8*8191 {
			t.Errorf("epoch %d: %d handles of %d Refs", epoch, len(whose), 8*8191)
		}
	}
}

// P6.1: each At from below 0 to above the arena: just the multiples of 8 between the ends have a handle.
func TestEachAt(t *testing.T) {
	for at := -200; at <= 65536+200; at++ {
		checkPack(t, api.Ref{At: at})
		checkPack(t, api.Ref{Scope: 7, Epoch: lastEpoch, At: at})
	}
}

// beyond are numbers that no part may be, or only some: around each bound, each power of two with what is beside it, and both far ends.
func beyond() []int {
	l := []int{0, 7, 8, 9, 65520, 65527, 65528, 65529, 65536, 65544, lastEpoch, lastEpoch + 1}
	for bit := range 63 {
		for _, near := range []int{-8, -1, 0, 1, 8} {
			l = append(l, 1<<bit+near, -1<<bit+near)
		}
	}
	for near := range 17 {
		l = append(l, math.MaxInt-near, math.MinInt+near)
	}
	return l
}

// P6.1: one part that may not be is ErrArg, whatever the others are; one that may be is not.
func TestOnePartWrong(t *testing.T) {
	for _, good := range []api.Ref{{At: 8}, {Scope: 1, Epoch: 2, At: 16}, {Scope: 7, Epoch: lastEpoch, At: lastAt}} {
		for _, n := range beyond() {
			checkPack(t, api.Ref{Scope: n, Epoch: good.Epoch, At: good.At})
			checkPack(t, api.Ref{Scope: good.Scope, Epoch: n, At: good.At})
			checkPack(t, api.Ref{Scope: good.Scope, Epoch: good.Epoch, At: n})
		}
	}
}

// P6.1: one part's surplus is no other part: what would make the same number is ErrArg.
func TestPartsDoNotRunOver(t *testing.T) {
	for _, r := range []api.Ref{
		{At: 1 << 27},                // by 8, it would be scope 1
		{At: 1<<27 + 8},              // scope 1, and a place
		{At: 1<<35 + 8},              // epoch 1
		{Scope: 1 << 8, At: 8},       // epoch 1
		{Scope: 1<<8 + 7, At: 8},     // epoch 1, scope 7
		{Scope: 1 << 32, At: 8},      // epoch 2^24
		{Scope: 1 << 40, At: 8},      // lost above all bits
		{Epoch: 1 << 32, At: 8},      // lost above all bits
		{Epoch: 1<<32 + 5, At: 8},    // lost, but for 5
		{Scope: -1, Epoch: 1, At: 8}, // would borrow of the epoch
		{Scope: 1, Epoch: 0, At: -8}, // would borrow of the scope
		{Scope: -8, Epoch: 0, At: 8},
		{Scope: 0, Epoch: 0, At: 1}, // a place within the first word
		{Scope: 0, Epoch: 0, At: 15},
		{Scope: 0, Epoch: 0, At: lastAt + 1},
	} {
		if h, err := Pack(r); h != 0 || err != api.ErrArg {
			t.Errorf("Pack(%v) = %d, %d; want 0, %d", r, h, err, api.ErrArg)
		}
	}
}

// P6.1: several parts wrong at once, by chance with a seed.
func TestRandomRefs(t *testing.T) {
	chance := rand.New(rand.NewSource(6))
	odd := beyond()
	part := func(most int) int {
		switch chance.Intn(6) {
		case 0:
			return odd[chance.Intn(len(odd))]
		case 1:
			return int(chance.Uint64())
		}
		return chance.Intn(most + 1)
	}
	for range 200000 {
		r := api.Ref{Scope: part(7), Epoch: part(lastEpoch), At: part(lastAt/8) * 8}
		checkPack(t, r)
	}
}

// P6.1: numbers that are no handle.
func TestNoHandle(t *testing.T) {
	for _, h := range []uint64{
		0,                      // none
		8192,                   // a place one too great
		8193, 16384, 1<<24 - 1, // greater ones
		1 << 24, 7 << 24, // a scope, but no place
		1 << 32, lastEpoch << 32, // an epoch, but no place
		1<<32 | 1<<24,        // both, but no place
		8<<24 | 1, 9<<24 | 1, // a scope of 8 or more
		255<<24 | 1, 1<<31 | 1,
		1<<56 | 1, 1<<63 | 1, // an epoch too great
		greatest + 1, greatest + 8193,
		1<<63 - 1, 1 << 63, 1<<64 - 1,
	} {
		if r, err := Unpack(h); r != (api.Ref{}) || err != api.ErrHandle {
			t.Errorf("Unpack(%d) = %v, %d; want none, %d", h, r, err, api.ErrHandle)
		}
	}
}

// P6.1: a handle with one bit turned: one of its own bits is another handle, but that a place of 0 is none, and any other bit none.
func TestOneBit(t *testing.T) {
	for _, r := range all() {
		h := handle(r)
		for bit := range 64 {
			checkUnpack(t, h^1<<bit)
		}
	}
}

// P6.1, P6.2: numbers around each bound, and by chance with a seed: what Unpack tells is what has that handle.
func TestNumbers(t *testing.T) {
	var l []uint64
	for _, base := range []uint64{0, 8192, 1 << 24, 1 << 27, 8 << 24, 1 << 32, 1<<32 | 7<<24 | 8191, 1 << 56, greatest, 1 << 63} {
		for near := range uint64(300) {
			l = append(l, base+near, base-near)
		}
	}
	chance := rand.New(rand.NewSource(7))
	for range 200000 {
		// Most numbers of 64 bits are no handle, so some are made small where a handle's bits are few.
		h := chance.Uint64()
		l = append(l, h, h&greatest, h&greatest|1<<chance.Intn(64), h&(1<<56-1))
	}
	for _, h := range l {
		checkUnpack(t, h)
		if r, err := Unpack(h); err == api.OK {
			if own, err := Pack(r); own != h || err != api.OK {
				t.Errorf("Unpack(%d) = %v, whose handle is %d, %d", h, r, own, err)
			}
		}
	}
}
