package head

import (
	"math"
	"math/rand"
	"testing"

	"penfold/api"
	"penfold/ref"
)

// lastEpoch is the last epoch, written out, and top what each first word has in its topmost byte.
const (
	lastEpoch = 16777215
	top       = 165 * 72057594037927936
)

// pair is the two words of a head.
type pair struct{ first, second uint64 }

// epochs are some that may be, the ends with them, and each bit alone.
func epochs() []int {
	l := []int{0, 3, 255, 257, 1000, 65535, lastEpoch - 1, lastEpoch}
	for bit := range 24 {
		l = append(l, 1<<bit)
	}
	return l
}

// all are heads of each number of slots, tag and scope, of every size, done and not done, of one epoch each; and of each epoch, of the least and the greatest size.
func all() []api.Head {
	var l []api.Head
	some := epochs()
	for slots := range 7 {
		for tag := range 8 {
			for scope := range 8 {
				for _, done := range []bool{false, true} {
					for size := 2 + slots; size <= 72; size++ {
						epoch := some[len(l)%len(some)]
						l = append(l, api.Head{Size: size, Slots: slots, Tag: tag, Done: done, Scope: scope, Epoch: epoch})
					}
					for _, epoch := range some {
						l = append(l, api.Head{Size: 2 + slots, Slots: slots, Tag: tag, Done: done, Scope: scope, Epoch: epoch},
							api.Head{Size: 72, Slots: slots, Tag: tag, Done: done, Scope: scope, Epoch: epoch})
					}
				}
			}
		}
	}
	return l
}

// few are heads at the ends of what may be, and between.
func few() []api.Head {
	return []api.Head{
		{Size: 2},
		{Size: 2, Done: true},
		{Size: 72},
		{Size: 8, Slots: 6},
		{Size: 3, Slots: 1, Tag: 2, Scope: 1, Epoch: 2},
		{Size: 40, Slots: 3, Tag: 5, Done: true, Scope: 4, Epoch: 70000},
		{Size: 72, Slots: 6, Tag: 7, Scope: 7, Epoch: lastEpoch},
		{Size: 72, Slots: 6, Tag: 7, Done: true, Scope: 7, Epoch: lastEpoch},
	}
}

// may is what the document says of a head, told again; the slots are asked ahead, so that the sum fits.
func may(h api.Head) bool {
	if h.Slots < 0 || h.Slots > 6 {
		return false
	}
	return h.Size >= 2+h.Slots && h.Size <= 72 && h.Tag >= 0 && h.Tag <= 7 && h.Scope >= 0 && h.Scope <= 7 && h.Epoch >= 0 && h.Epoch <= lastEpoch
}

// words is what the document makes of a head that may be.
func words(h api.Head) pair {
	first := uint64(h.Size) + uint64(h.Slots)*4294967296 + uint64(h.Tag)*1099511627776 + top
	if h.Done {
		first += 281474976710656
	}
	return pair{first, uint64(h.Scope) + uint64(h.Epoch)*256}
}

// told is what the document says of two words, by dividing them.
func told(w pair) (api.Head, api.Errno) {
	size, slots, tag := w.first%4294967296, w.first/4294967296%256, w.first/1099511627776%256
	done, mark := w.first/281474976710656%256, w.first/72057594037927936
	scope, epoch := w.second%256, w.second/256
	if mark != 165 || done > 1 || slots > 6 || size < 2+slots || size > 72 || tag > 7 || scope > 7 || epoch > lastEpoch {
		return api.Head{}, api.ErrHandle
	}
	return api.Head{Size: int(size), Slots: int(slots), Tag: int(tag), Done: done == 1, Scope: int(scope), Epoch: int(epoch)}, api.OK
}

// checkHead holds Right and Pack against the document.
func checkHead(t *testing.T, h api.Head) {
	t.Helper()
	want, wantErr := pair{}, api.ErrArg
	if may(h) {
		want, wantErr = words(h), api.OK
	}
	if Right(h) != may(h) {
		t.Errorf("Right(%v) = %v", h, Right(h))
	}
	if first, second, err := Pack(h); (pair{first, second}) != want || err != wantErr {
		t.Errorf("Pack(%v) = %d, %d, %d; want %v, %d", h, first, second, err, want, wantErr)
	}
}

// checkWords holds Unpack against the document.
func checkWords(t *testing.T, w pair) {
	t.Helper()
	want, wantErr := told(w)
	if h, err := Unpack(w.first, w.second); h != want || err != wantErr {
		t.Errorf("Unpack(%d, %d) = %v, %d; want %v, %d", w.first, w.second, h, err, want, wantErr)
	}
}

// far are numbers far from all bounds: near each power of two, and near both ends.
func far() []int {
	var l []int
	for bit := 3; bit < 63; bit++ {
		for near := -9; near <= 9; near++ {
			l = append(l, 1<<bit+near, -1<<bit+near)
		}
	}
	for near := range 80 {
		l = append(l, math.MaxInt-near, math.MinInt+near)
	}
	return l
}

// P7.1: objects as they are written out.
func TestWordsWrittenOut(t *testing.T) {
	for _, x := range []struct{ slots, bytes, n int }{
		{2, 9, 6}, // the chapter's example
		{0, 0, 2}, {6, 0, 8}, {0, 512, 66}, {6, 512, 72},
		{0, 1, 3}, {0, 7, 3}, {0, 8, 3}, {0, 9, 4}, {0, 504, 65}, {0, 505, 66}, {0, 511, 66},
		{1, 0, 3}, {1, 1, 4}, {3, 17, 8}, {5, 64, 15},
	} {
		if n, err := Words(x.slots, x.bytes); n != x.n || err != api.OK {
			t.Errorf("Words(%d, %d) = %d, %d; want %d", x.slots, x.bytes, n, err, x.n)
		}
	}
}

// P7.1: each number of slots and of bytes, from well below what may be to well above it: words are counted until all bytes have room.
func TestWordsOfEach(t *testing.T) {
	for slots := -20; slots <= 30; slots++ {
		for bytes := -40; bytes <= 600; bytes++ {
			want, wantErr := 0, api.ErrArg
			if slots >= 0 && slots <= 6 && bytes >= 0 && bytes <= 512 {
				want, wantErr = 2+slots, api.OK
				for room := 0; room < bytes; room += 8 {
					want++
				}
			}
			if n, err := Words(slots, bytes); n != want || err != wantErr {
				t.Errorf("Words(%d, %d) = %d, %d; want %d, %d", slots, bytes, n, err, want, wantErr)
			}
		}
	}
}

// P7.1: what is far beyond is ErrArg, with no words, be it of slots, of bytes, or of both.
func TestWordsFarBeyond(t *testing.T) {
	wrong := func(slots, bytes int) {
		if n, err := Words(slots, bytes); n != 0 || err != api.ErrArg {
			t.Errorf("Words(%d, %d) = %d, %d; want 0, %d", slots, bytes, n, err, api.ErrArg)
		}
	}
	for _, n := range far() {
		if n < 0 || n > 6 {
			wrong(n, 0)
			wrong(n, 512)
			wrong(n, n)
		}
		if n < 0 || n > 512 {
			wrong(0, n)
			wrong(6, n)
			wrong(-n, n)
		}
	}
}

// P7.1, P7.2: an object of so many words may be, and one of fewer words than its slots take may not.
func TestWordsAreASize(t *testing.T) {
	for slots := range 7 {
		for bytes := range 513 {
			n, _ := Words(slots, bytes)
			if !Right(api.Head{Size: n, Slots: slots}) {
				t.Errorf("Words(%d, %d) = %d, which is no Size", slots, bytes, n)
			}
		}
		least, _ := Words(slots, 0)
		if Right(api.Head{Size: least - 1, Slots: slots}) {
			t.Errorf("%d slots: Size %d is let in", slots, least-1)
		}
	}
}

// P7.2: heads as they are written out.
func TestHeadsWrittenOut(t *testing.T) {
	for _, x := range []struct {
		h api.Head
		w pair
	}{
		{api.Head{Size: 2}, pair{11889503016258109442, 0}},
		{api.Head{Size: 72}, pair{11889503016258109512, 0}},
		{api.Head{Size: 3, Slots: 1}, pair{11889503020553076739, 0}},
		{api.Head{Size: 8, Slots: 6}, pair{11889503042027913224, 0}},
		{api.Head{Size: 2, Tag: 1}, pair{11889504115769737218, 0}},
		{api.Head{Size: 2, Tag: 7}, pair{11889510712839503874, 0}},
		{api.Head{Size: 2, Done: true}, pair{11889784491234820098, 0}},
		{api.Head{Size: 2, Scope: 1}, pair{11889503016258109442, 1}},
		{api.Head{Size: 2, Scope: 7}, pair{11889503016258109442, 7}},
		{api.Head{Size: 2, Epoch: 1}, pair{11889503016258109442, 256}},
		{api.Head{Size: 2, Epoch: lastEpoch}, pair{11889503016258109442, 4294967040}},
		{api.Head{Size: 3, Slots: 1, Tag: 2, Scope: 1, Epoch: 2}, pair{11889505219576332291, 513}},
	} {
		if !Right(x.h) {
			t.Errorf("Right(%v) = false", x.h)
		}
		if first, second, err := Pack(x.h); (pair{first, second}) != x.w || err != api.OK {
			t.Errorf("Pack(%v) = %d, %d, %d; want %v", x.h, first, second, err, x.w)
		}
		if h, err := Unpack(x.w.first, x.w.second); h != x.h || err != api.OK {
			t.Errorf("Unpack(%v) = %v, %d; want %v", x.w, h, err, x.h)
		}
	}
}

// P7.2: each head has words of its own, which tell it again.
func TestThereAndBack(t *testing.T) {
	whose := map[pair]api.Head{}
	for _, h := range all() {
		checkHead(t, h)
		first, second, _ := Pack(h)
		if back, err := Unpack(first, second); back != h || err != api.OK {
			t.Errorf("Unpack(%d, %d) = %v, %d; want %v", first, second, back, err, h)
		}
		if other, seen := whose[pair{first, second}]; seen && other != h {
			t.Errorf("%v and %v have the same words", other, h)
		}
		whose[pair{first, second}] = h
	}
}

// P7.2: just one below and one above what each field may be, of each number of slots.
func TestOneBeyond(t *testing.T) {
	for slots := range 7 {
		for _, done := range []bool{false, true} {
			good := api.Head{Size: 2 + slots, Slots: slots, Tag: 3, Done: done, Scope: 4, Epoch: 5}
			for _, change := range []func(h *api.Head){
				func(h *api.Head) { h.Size = 1 + slots },
				func(h *api.Head) { h.Size = 73 },
				func(h *api.Head) { h.Slots = slots + 1 },
				func(h *api.Head) { h.Slots = -1 },
				func(h *api.Head) { h.Size, h.Slots = 72, 7 },
				func(h *api.Head) { h.Tag = -1 },
				func(h *api.Head) { h.Tag = 8 },
				func(h *api.Head) { h.Scope = -1 },
				func(h *api.Head) { h.Scope = 8 },
				func(h *api.Head) { h.Epoch = -1 },
				func(h *api.Head) { h.Epoch = lastEpoch + 1 },
			} {
				h := good
				change(&h)
				first, second, err := Pack(h)
				if Right(h) || first != 0 || second != 0 || err != api.ErrArg {
					t.Errorf("%v: Right %v, Pack %d, %d, %d; want false, 0, 0, %d", h, Right(h), first, second, err, api.ErrArg)
				}
			}
			checkHead(t, good)
		}
	}
}

// P7.2: one field is any number, near its bounds and far from them, the others as they may be.
func TestOneFieldOfAnyNumber(t *testing.T) {
	numbers := far()
	for n := -100; n <= 300; n++ {
		numbers = append(numbers, n)
	}
	for near := -3; near <= 3; near++ {
		numbers = append(numbers, lastEpoch+near)
	}
	for _, good := range few() {
		for _, n := range numbers {
			for _, change := range []func(h *api.Head){
				func(h *api.Head) { h.Size = n },
				func(h *api.Head) { h.Slots = n },
				func(h *api.Head) { h.Size, h.Slots = n, n },
				func(h *api.Head) { h.Tag = n },
				func(h *api.Head) { h.Scope = n },
				func(h *api.Head) { h.Epoch = n },
			} {
				h := good
				change(&h)
				checkHead(t, h)
			}
		}
	}
}

// P7.2: one field's surplus is no other field: what would make the same words is ErrArg.
func TestFieldsDoNotRunOver(t *testing.T) {
	for _, h := range []api.Head{
		{},
		{Size: 1<<32 + 3},                // one slot
		{Size: 1<<40 + 2},                // the tag 1
		{Size: 1<<48 + 2},                // done
		{Size: 1<<56 + 2},                // of the topmost byte
		{Size: 1<<62 + 2},                // likewise
		{Size: 2, Slots: 1 << 8},         // the tag 1
		{Size: 2, Slots: 1 << 32},        // lost above all bits
		{Size: 2, Tag: 1 << 8},           // done
		{Size: 2, Tag: 1 << 24},          // lost above all bits
		{Size: 2, Scope: 1 << 8},         // the epoch 1
		{Size: 2, Scope: 1<<8 + 7},       // the epoch 1, the scope 7
		{Size: 2, Epoch: 1 << 56},        // lost above all bits
		{Size: 2, Epoch: 1<<56 + 5},      // lost, but for 5
		{Size: 2, Scope: -256, Epoch: 1}, // would borrow of the epoch
		{Size: math.MinInt + 2},
		{Size: math.MinInt, Slots: math.MinInt},
		{Size: 2, Slots: math.MaxInt}, // 2 and Slots together do not fit
		{Size: math.MaxInt, Slots: math.MaxInt},
	} {
		first, second, err := Pack(h)
		if Right(h) || first != 0 || second != 0 || err != api.ErrArg {
			t.Errorf("%v: Right %v, Pack %d, %d, %d; want false, 0, 0, %d", h, Right(h), first, second, err, api.ErrArg)
		}
	}
}

// P7.2: heads by chance, with a seed, of which some may be.
func TestHeadsByChance(t *testing.T) {
	chance := rand.New(rand.NewSource(7))
	odd := far()
	field := func(most int) int {
		switch chance.Intn(20) {
		case 0:
			return odd[chance.Intn(len(odd))]
		case 1:
			return int(chance.Uint64())
		case 2:
			return most + 1
		}
		return chance.Intn(most + 1)
	}
	for range 200000 {
		checkHead(t, api.Head{Size: field(72), Slots: field(6), Tag: field(7), Done: chance.Intn(2) == 1, Scope: field(7), Epoch: field(lastEpoch)})
	}
}

// P7.2: pairs of words that are no head's.
func TestNoHead(t *testing.T) {
	const good, second = top + 3 + 1<<32 + 2<<40, 513
	if _, err := Unpack(good, second); err != api.OK {
		t.Fatalf("Unpack(%d, %d): %d", uint64(good), second, err)
	}
	for _, w := range []pair{
		{0, 0}, {0, second},
		{math.MaxUint64, 0}, {0, math.MaxUint64}, {math.MaxUint64, math.MaxUint64},
		{math.MaxUint64, second}, {good, math.MaxUint64},
		{top, 0}, {top + 1, 0}, {top + 73, 0}, // Size 0, 1, 73
		{top + 2 + 1<<32, 0}, {top + 7 + 6<<32, 0}, // fewer words than the slots take
		{top + 72 + 7<<32, 0}, {top + 72 + 255<<32, 0}, // 7 slots, 255
		{top + 2 + 8<<40, 0}, {top + 2 + 255<<40, 0}, // the tag 8, 255
		{top + 2 + 2<<48, 0}, {top + 2 + 3<<48, 0}, {top + 2 + 128<<48, 0}, {top + 2 + 255<<48, 0}, // done, but not 1
		{good, 8}, {good, 255}, {good, 7 + 128}, // the scope 8, 255, 135
		{good, 1 << 32}, {good, 1<<32 + 7}, {good, 1 << 55}, {good, 1 << 63}, {good, 1<<63 + second}, // bits above an epoch
		{second, good}, {good, good}, {good - top, second}, // the words in the other order, one of them twice, without the topmost byte
	} {
		if h, err := Unpack(w.first, w.second); h != (api.Head{}) || err != api.ErrHandle {
			t.Errorf("Unpack(%v) = %v, %d; want none, %d", w, h, err, api.ErrHandle)
		}
	}
}

// P7.2: a first word whose topmost byte is another is no head's, whatever else it is.
func TestTopmostByte(t *testing.T) {
	for _, h := range few() {
		w := words(h)
		for mark := range uint64(256) {
			other := pair{w.first - top + mark<<56, w.second}
			got, err := Unpack(other.first, other.second)
			if mark == 165 && (got != h || err != api.OK) {
				t.Errorf("Unpack(%v) = %v, %d; want %v", other, got, err, h)
			}
			if mark != 165 && (got != api.Head{} || err != api.ErrHandle) {
				t.Errorf("Unpack(%v) = %v, %d; want none, %d", other, got, err, api.ErrHandle)
			}
		}
	}
}

// P7.2: a second word with a bit above those of an epoch is no head's.
func TestAboveAnEpoch(t *testing.T) {
	for _, h := range few() {
		w := words(h)
		for bit := 32; bit < 64; bit++ {
			if got, err := Unpack(w.first, w.second|1<<bit); got != (api.Head{}) || err != api.ErrHandle {
				t.Errorf("Unpack(%d, %d) = %v, %d; want none, %d", w.first, w.second|1<<bit, got, err, api.ErrHandle)
			}
		}
	}
}

// P7.2: a head's words with one bit turned, of the first or of the second one, and with one of each: another head's, or none's.
func TestOneBit(t *testing.T) {
	for i, h := range all() {
		// One in 17 is enough: the fields come round at other distances, so each of their numbers is met.
		if i%17 != 0 {
			continue
		}
		w := words(h)
		for bit := range 64 {
			checkWords(t, pair{w.first ^ 1<<bit, w.second})
			checkWords(t, pair{w.first, w.second ^ 1<<bit})
		}
	}
	for _, h := range few() {
		w := words(h)
		for one := range 64 {
			for other := range 64 {
				checkWords(t, pair{w.first ^ 1<<one, w.second ^ 1<<other})
			}
		}
	}
}

// P7.2: each byte of a head's words is each number.
func TestOneByte(t *testing.T) {
	for _, h := range few() {
		w := words(h)
		for at := 0; at < 64; at += 8 {
			for n := range uint64(256) {
				checkWords(t, pair{w.first&^(255<<at) | n<<at, w.second})
				checkWords(t, pair{w.first, w.second&^(255<<at) | n<<at})
			}
		}
	}
}

// P7.2: words by chance, with a seed, of which some are a head's: what Unpack tells has just these words.
func TestWordsByChance(t *testing.T) {
	chance := rand.New(rand.NewSource(7))
	for range 200000 {
		// Most words are no head's, so some are cut down to the bits that a head may have.
		w := pair{chance.Uint64(), chance.Uint64()}
		cut := pair{w.first&0x00010707_0000007f | top, w.second & 0xffffff07}
		for _, w := range []pair{w, cut, {cut.first, w.second}, {w.first, cut.second}, {cut.first ^ 1<<chance.Intn(64), cut.second}} {
			checkWords(t, w)
			h, err := Unpack(w.first, w.second)
			if err != api.OK {
				continue
			}
			if first, second, err := Pack(h); (pair{first, second}) != w || err != api.OK {
				t.Errorf("Unpack(%v) = %v, whose words are %d, %d, %d", w, h, first, second, err)
			}
		}
	}
}

// handles are those of each scope, of many epochs and places.
func handles(t *testing.T) []uint64 {
	var l []uint64
	for scope := range 8 {
		for _, epoch := range epochs() {
			for _, at := range []int{8, 16, 24, 64, 512, 576, 4096, 65520, 65528} {
				h, err := ref.Pack(api.Ref{Scope: scope, Epoch: epoch, At: at})
				if err != api.OK {
					t.Fatalf("ref.Pack of %d, %d, %d: %d", scope, epoch, at, err)
				}
				l = append(l, h)
			}
		}
	}
	return l
}

// P7.3: no handle, and no 0, is the first word of a head, whatever the second word is.
func TestNoHandleIsAFirstWord(t *testing.T) {
	seconds := []uint64{0, math.MaxUint64}
	for _, h := range few() {
		seconds = append(seconds, words(h).second)
	}
	for _, first := range append(handles(t), 0) {
		for _, second := range seconds {
			if h, err := Unpack(first, second); h != (api.Head{}) || err != api.ErrHandle {
				t.Errorf("Unpack(%d, %d) = %v, %d; want none, %d", first, second, h, err, api.ErrHandle)
			}
		}
	}
}

// P7.3: no first word that is packed is a handle, or 0.
func TestNoFirstWordIsAHandle(t *testing.T) {
	for _, h := range all() {
		first, _, err := Pack(h)
		if first == 0 || err != api.OK {
			t.Errorf("Pack(%v) = %d, .., %d", h, first, err)
		}
		if r, err := ref.Unpack(first); err != api.ErrHandle {
			t.Errorf("the first word of %v, %d, is the handle of %v, %d", h, first, r, err)
		}
	}
}
