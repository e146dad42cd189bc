package arena

import (
	"bytes"
	"math"
	"math/big"
	"math/rand"
	"slices"
	"testing"

	"penfold/api"
)

const most64 = math.MaxUint64

// fresh is an arena of n bytes, which must be told.
func fresh(t *testing.T, n int) *Arena {
	t.Helper()
	a, err := New(n)
	if a == nil || err != api.OK {
		t.Fatalf("New(%d) = %v, %d", n, a, err)
	}
	return a
}

// filled has a byte of its own at each of the first 255 places, and none that is 0.
func filled(t *testing.T, n int) *Arena {
	t.Helper()
	a := fresh(t, n)
	for at := range n {
		if err := a.PutByte(at, byte(at%255+1)); err != api.OK {
			t.Fatalf("PutByte(%d) = %d", at, err)
		}
	}
	return a
}

// all are the bytes, asked for one by one.
func all(t *testing.T, a *Arena) []byte {
	t.Helper()
	l := make([]byte, a.Len())
	for at := range l {
		b, err := a.Byte(at)
		if err != api.OK {
			t.Fatalf("Byte(%d) = %d", at, err)
		}
		l[at] = b
	}
	return l
}

// with is l with the words there; what is named later stands.
func with(l []byte, words ...wordAt) []byte {
	l = slices.Clone(l)
	for _, w := range words {
		x := w.x
		for i := range 8 {
			l[w.at+i] = byte(x % 256)
			x /= 256
		}
	}
	return l
}

type wordAt struct {
	at int
	x  uint64
}

// same holds all bytes against those wanted.
func same(t *testing.T, a *Arena, want []byte, what string, args ...any) {
	t.Helper()
	if got := all(t, a); !bytes.Equal(got, want) {
		t.Errorf(what+": the bytes are\n%v, want\n%v", append(args, got, want)...)
	}
}

func putWord(t *testing.T, a *Arena, at int, x uint64) {
	t.Helper()
	if err := a.Put(at, x); err != api.OK {
		t.Fatalf("Put(%d, %d) = %d", at, x, err)
	}
}

// noWords are places at which an arena of n bytes has no word.
func noWords(n int) []int {
	l := []int{-1, -4, -7, -8, -16, -64, math.MinInt, math.MinInt + 8, n, n + 1, n + 4, n + 8, 1 << 16, 1 << 17, 1 << 32, 1 << 40, math.MaxInt, math.MaxInt - 7}
	for at := range n {
		if at%8 != 0 {
			l = append(l, at)
		}
	}
	return l
}

// P2.1: from 0 to MaxArena, and multiples of 8 alone.
func TestNew(t *testing.T) {
	for n := -80; n <= api.MaxArena+80; n++ {
		a, err := New(n)
		if n >= 0 && n <= 65536 && n%8 == 0 {
			if a == nil || err != api.OK || a.Len() != n {
				t.Fatalf("New(%d) = %v, %d", n, a, err)
			}
		} else if a != nil || err != api.ErrArg {
			t.Fatalf("New(%d) = %v, %d; want nil, %d", n, a, err, api.ErrArg)
		}
	}
	for _, n := range []int{math.MinInt, math.MinInt + 8, -1 << 32, -1 << 16, 1 << 17, 1 << 32, 1<<32 + 8, 1 << 40, math.MaxInt - 7, math.MaxInt} {
		if a, err := New(n); a != nil || err != api.ErrArg {
			t.Errorf("New(%d) = %v, %d; want nil, %d", n, a, err, api.ErrArg)
		}
	}
}

// P2.1: all bytes of a new arena are 0, even where an older one was written full.
func TestNewIsZero(t *testing.T) {
	for _, n := range []int{0, 8, 64, api.MaxArena} {
		filled(t, n)
		same(t, fresh(t, n), make([]byte, n), "New(%d)", n)
	}
}

// P2.1: every byte has a place; nothing below the first and behind the last has one, and what is refused changes nothing.
func TestBytePlaces(t *testing.T) {
	for _, n := range []int{0, 8, 16, 24, api.MaxArena} {
		a := filled(t, n)
		before := all(t, a)
		for _, at := range []int{-1, -8, -n, -n - 1, math.MinInt, n, n + 1, n + 7, n + 8, 1 << 17, 1 << 32, 1 << 40, math.MaxInt} {
			if b, err := a.Byte(at); b != 0 || err != api.ErrArg {
				t.Errorf("of %d: Byte(%d) = %d, %d", n, at, b, err)
			}
			if err := a.PutByte(at, 77); err != api.ErrArg {
				t.Errorf("of %d: PutByte(%d) = %d", n, at, err)
			}
		}
		same(t, a, before, "refused, of %d", n)
	}
	a := fresh(t, api.MaxArena)
	for _, at := range []int{0, 1, 7, 8, 4095, 65528, 65535} {
		for _, b := range []byte{255, 128, 1, 0} {
			if err := a.PutByte(at, b); err != api.OK {
				t.Errorf("PutByte(%d) = %d", at, err)
			}
			if got, err := a.Byte(at); got != b || err != api.OK {
				t.Errorf("Byte(%d) = %d, %d; want %d", at, got, err, b)
			}
		}
	}
}

// P2.1: a word is its eight bytes, the lowest first, whichever way it was put.
func TestWordsAreBytes(t *testing.T) {
	for _, x := range []struct {
		word  uint64
		bytes [8]byte
	}{
		{0, [8]byte{}},
		{1, [8]byte{1}},
		{258, [8]byte{2, 1}},
		{1 << 56, [8]byte{7: 1}},
		{1 << 63, [8]byte{7: 128}},
		{0x0807060504030201, [8]byte{1, 2, 3, 4, 5, 6, 7, 8}},
		{0xfffefdfcfbfaf9f8, [8]byte{0xf8, 0xf9, 0xfa, 0xfb, 0xfc, 0xfd, 0xfe, 0xff}},
		{most64, [8]byte{255, 255, 255, 255, 255, 255, 255, 255}},
	} {
		for _, at := range []int{0, 8, 24} {
			a := filled(t, 32)
			want := slices.Clone(all(t, a))
			copy(want[at:], x.bytes[:])
			putWord(t, a, at, x.word)
			same(t, a, want, "Put(%d, %x)", at, x.word)

			a = filled(t, 32)
			for i, b := range x.bytes {
				if err := a.PutByte(at+i, b); err != api.OK {
					t.Fatal(err)
				}
			}
			same(t, a, want, "eight PutByte from %d on", at)
			if w, err := a.Word(at); w != x.word || err != api.OK {
				t.Errorf("Word(%d) = %x, %d; want %x", at, w, err, x.word)
			}
		}
	}
}

// P2.1: the example of the chapter.
func TestExample(t *testing.T) {
	a := fresh(t, 16)
	putWord(t, a, 8, 258)
	low, _ := a.Byte(8)
	high, _ := a.Byte(9)
	if low != 2 || high != 1 {
		t.Errorf("Byte(8), Byte(9) = %d, %d; want 2, 1", low, high)
	}
}

// P2.1, P2.2: no call that asks for a word takes a place that is none, and nothing changes.
func TestNoWordsPlace(t *testing.T) {
	for _, n := range []int{0, 8, 16, 64} {
		a := filled(t, n)
		before := all(t, a)
		for _, at := range noWords(n) {
			if w, err := a.Word(at); w != 0 || err != api.ErrArg {
				t.Errorf("of %d: Word(%d) = %d, %d", n, at, w, err)
			}
			if err := a.Put(at, 5); err != api.ErrArg {
				t.Errorf("of %d: Put(%d) = %d", n, at, err)
			}
			if ok, err := a.Cas(at, 0, 5); ok || err != api.ErrArg {
				t.Errorf("of %d: Cas(%d) = %t, %d", n, at, ok, err)
			}
			if w, ok, err := a.Claim(at, 0, most64, 0, 5, 6); w != 0 || ok || err != api.ErrArg {
				t.Errorf("of %d: Claim(%d) = %d, %t, %d", n, at, w, ok, err)
			}
			for _, count := range []int{1, 2, 8, math.MaxInt} {
				if err := a.Zero(at, count); err != api.ErrArg {
					t.Errorf("of %d: Zero(%d, %d) = %d", n, at, count, err)
				}
			}
		}
		same(t, a, before, "refused, of %d", n)
	}
}

// P2.1: the last word of the greatest arena is one.
func TestLastWord(t *testing.T) {
	a := fresh(t, api.MaxArena)
	last := api.MaxArena - 8
	putWord(t, a, last, 9)
	if w, err := a.Word(last); w != 9 || err != api.OK {
		t.Errorf("Word(%d) = %d, %d", last, w, err)
	}
	if ok, err := a.Cas(last, 9, 10); !ok || err != api.OK {
		t.Errorf("Cas(%d) = %t, %d", last, ok, err)
	}
	same(t, a, with(make([]byte, api.MaxArena), wordAt{last, 10}), "the last word")
	if w, err := a.Word(api.MaxArena); w != 0 || err != api.ErrArg {
		t.Errorf("Word(%d) = %d, %d", api.MaxArena, w, err)
	}
}

// P2.2: Cas changes the word just where it is what was told, in all of its bits.
func TestCas(t *testing.T) {
	for _, x := range []struct {
		is, old, x uint64
		ok         bool
	}{
		{0, 0, 7, true},
		{7, 7, 0, true},
		{7, 7, 7, true},
		{7, 0, 9, false},
		{7, 8, 7, false},
		{7, 6, 7, false},
		{most64, most64, 1, true},
		{most64, most64 - 1, 1, false},
		{1 << 63, 0, 1, false},
		{1<<63 | 5, 5, 1, false},
		{1 << 32, 0, 1, false},
		{0x0102030405060708, 0x0807060504030201, 1, false},
	} {
		for _, at := range []int{0, 8, 16} {
			a := filled(t, 24)
			putWord(t, a, at, x.is)
			want := all(t, a)
			if x.ok {
				want = with(want, wordAt{at, x.x})
			}
			if ok, err := a.Cas(at, x.old, x.x); ok != x.ok || err != api.OK {
				t.Errorf("%x: Cas(%d, %x, %x) = %t, %d; want %t", x.is, at, x.old, x.x, ok, err, x.ok)
			}
			same(t, a, want, "%x: Cas(%d, %x, %x)", x.is, at, x.old, x.x)
		}
	}
}

// claim is a call of Claim, of an arena of 64 bytes whose word at is used, and what it must tell.
type claim struct {
	at         int
	used       uint64
	by, most   uint64
	base       int
	ok         bool
	err        api.Errno
	wordBehind uint64
}

func (c claim) check(t *testing.T) {
	t.Helper()
	const first, second = 0x1111111111111111, 0x2222222222222222
	a := filled(t, 64)
	putWord(t, a, c.at, c.used)
	want := all(t, a)
	told := c.used
	if c.err != api.OK {
		told = 0
	}
	if c.ok {
		to := c.base + int(c.used)
		want = with(want, wordAt{c.at, c.wordBehind}, wordAt{to, first}, wordAt{to + 8, second})
	}
	if w, ok, err := a.Claim(c.at, c.by, c.most, c.base, first, second); w != told || ok != c.ok || err != c.err {
		t.Errorf("%+v: told %d, %t, %d; want %d", c, w, ok, err, told)
	}
	same(t, a, want, "%+v", c)
}

// P2.2: what is claimed: the word is moved on by so much, and two words stand where it was, from base on.
func TestClaimTaken(t *testing.T) {
	for _, c := range []claim{
		{at: 0, used: 0, by: 16, most: 32, base: 32, wordBehind: 16},
		{at: 0, used: 16, by: 16, most: 32, base: 32, wordBehind: 32},
		{at: 56, used: 8, by: 24, most: 100, base: 16, wordBehind: 32},
		{at: 8, used: 0, by: 0, most: 0, base: 16, wordBehind: 0},
		{at: 8, used: 24, by: 0, most: 24, base: 0, wordBehind: 24},
		{at: 8, used: 24, by: 1, most: 25, base: 0, wordBehind: 25},
		// Neither base nor the word need be multiples of 8, their sum must.
		{at: 0, used: 4, by: 3, most: 7, base: 20, wordBehind: 7},
		{at: 0, used: 1, by: 8, most: 100, base: 15, wordBehind: 9},
		// The last two words.
		{at: 0, used: 48, by: 8, most: 100, base: 0, wordBehind: 56},
		{at: 0, used: 0, by: 8, most: 100, base: 48, wordBehind: 8},
		// The sum need not fit the arena, or an int.
		{at: 0, used: 8, by: most64 - 8, most: most64, base: 8, wordBehind: most64},
		{at: 0, used: 0, by: most64, most: most64, base: 8, wordBehind: most64},
		{at: 0, used: 8, by: 1 << 63, most: most64, base: 8, wordBehind: 1<<63 + 8},
	} {
		c.ok = true
		c.check(t)
	}
}

// P2.2: what is too much: the word as it is, and false; this is told ahead of what base may be.
func TestClaimTooMuch(t *testing.T) {
	for _, base := range []int{32, 0, 1, -8, math.MinInt, math.MaxInt, api.MaxArena + 1} {
		for _, c := range []claim{
			{used: 32, by: 16, most: 47},
			{used: 32, by: 1, most: 32},
			{used: 32, by: 0, most: 31},
			{used: 0, by: 1, most: 0},
			{used: 0, by: most64, most: most64 - 1},
			{used: 1, by: most64, most: most64},
			{used: 9, by: most64 - 8, most: most64},
			{used: most64, by: 1, most: most64},
			{used: most64, by: most64, most: most64},
			{used: 1 << 63, by: 1 << 63, most: most64},
			{used: 1 << 63, by: 1 << 63, most: 0},
			{used: most64, by: 0, most: 65536},
			{used: 1 << 40, by: 8, most: 1 << 40},
		} {
			for _, at := range []int{0, 24, 56} {
				c.at, c.base = at, base
				c.check(t)
			}
		}
	}
}

// P2.2: where there is enough, but no place for the two words.
func TestClaimNoPlace(t *testing.T) {
	for _, c := range []claim{
		// The second word, the first word, is behind the end.
		{used: 0, by: 16, most: 99, base: 56},
		{used: 56, by: 16, most: 99, base: 0},
		{used: 0, by: 16, most: 99, base: 64},
		{used: 32, by: 0, most: 99, base: 32},
		{used: 64, by: 0, most: 99, base: 64},
		// No multiples of 8.
		{used: 0, by: 8, most: 99, base: 4},
		{used: 4, by: 8, most: 99, base: 8},
		{used: 3, by: 8, most: 99, base: 6},
		{used: 12, by: 8, most: 99, base: 0},
		// A base that is below 0 or above MaxArena, even where the sum would be a place.
		{used: 16, by: 8, most: 99, base: -8},
		{used: 16, by: 8, most: 99, base: -16},
		{used: 1, by: 8, most: 99, base: -1},
		{used: 0, by: 8, most: 99, base: api.MaxArena},
		{used: 0, by: 8, most: 99, base: api.MaxArena + 8},
		{used: 8, by: 8, most: 99, base: math.MaxInt - 7},
		{used: 8, by: 8, most: 99, base: math.MaxInt},
		{used: 8, by: 8, most: 99, base: math.MinInt},
		{used: 8, by: 8, most: 99, base: math.MinInt + 8},
		// A word that is above MaxArena, even where the sum, wrapped round, would be a place.
		{used: api.MaxArena, by: 0, most: most64, base: 0},
		{used: api.MaxArena + 8, by: 0, most: most64, base: 0},
		{used: 1 << 32, by: 0, most: most64, base: 16},
		{used: 1 << 63, by: 0, most: most64, base: 16},
		{used: 1<<63 | 8, by: 0, most: most64, base: 16},
		{used: most64 - 7, by: 7, most: most64, base: 16},
		{used: most64 - 15, by: 0, most: most64, base: 32},
		{used: most64, by: 0, most: most64, base: 17},
	} {
		for _, at := range []int{0, 24, 56} {
			c.at, c.err = at, api.ErrArg
			c.check(t)
		}
	}
}

// P2.2: where two of the three words are one place, the one that is named later stands.
func TestClaimOnItself(t *testing.T) {
	for _, x := range []struct {
		name string
		at   int
		want []wordAt
	}{
		{"first over the sum", 24, []wordAt{{24, 71}, {32, 72}}},
		{"second over the sum", 32, []wordAt{{24, 71}, {32, 72}}},
		{"all three apart", 16, []wordAt{{16, 24}, {24, 71}, {32, 72}}},
		{"the word behind", 40, []wordAt{{24, 71}, {32, 72}, {40, 24}}},
	} {
		a := filled(t, 64)
		putWord(t, a, x.at, 8)
		want := with(all(t, a), x.want...)
		if w, ok, err := a.Claim(x.at, 16, 99, 16, 71, 72); w != 8 || !ok || err != api.OK {
			t.Errorf("%s: %d, %t, %d", x.name, w, ok, err)
		}
		same(t, a, want, "%s", x.name)
	}
}

// P2.2: base and the word may both be at their bounds, and are refused only one above.
func TestClaimInGreatest(t *testing.T) {
	const end = api.MaxArena
	for _, x := range []struct {
		used uint64
		base int
		err  api.Errno
	}{
		{end - 16, 0, api.OK},
		{0, end - 16, api.OK},
		{end - 24, 8, api.OK},
		{32768, 32752, api.OK},
		{end - 8, 0, api.ErrArg},
		{end, 0, api.ErrArg},
		{0, end - 8, api.ErrArg},
		{0, end, api.ErrArg},
		{end, end, api.ErrArg},
		{16, -8, api.ErrArg},
		{end + 8, -16, api.ErrArg},
		{8, end, api.ErrArg},
	} {
		a := fresh(t, end)
		putWord(t, a, 0, x.used)
		want, told := all(t, a), uint64(0)
		if x.err == api.OK {
			to := x.base + int(x.used)
			want, told = with(want, wordAt{0, x.used + 8}, wordAt{to, 71}, wordAt{to + 8, 72}), x.used
		}
		if w, ok, err := a.Claim(0, 8, most64, x.base, 71, 72); w != told || ok != (x.err == api.OK) || err != x.err {
			t.Errorf("Claim of %d from %d on: %d, %t, %d; want %d", x.used, x.base, w, ok, err, x.err)
		}
		if !bytes.Equal(all(t, a), want) {
			t.Errorf("Claim of %d from %d on: other bytes", x.used, x.base)
		}
	}
}

// P2.2: every run of words within is 0, and nothing beside it; of none nothing is asked, and what is refused changes nothing.
func TestZero(t *testing.T) {
	const n = 40
	for at := -24; at <= n+24; at++ {
		for count := -3; count <= 8; count++ {
			a := filled(t, n)
			want, wantErr := all(t, a), api.OK
			fits := at >= 0 && at%8 == 0 && at+8*count <= n
			if count < 0 || count > 0 && !fits {
				wantErr = api.ErrArg
			} else if count > 0 {
				clear(want[at : at+8*count])
			}
			if err := a.Zero(at, count); err != wantErr {
				t.Errorf("Zero(%d, %d) = %d; want %d", at, count, err, wantErr)
			}
			same(t, a, want, "Zero(%d, %d)", at, count)
		}
	}
}

// P2.2: places and counts that are far out, of which no sum may wrap round.
func TestZeroFarOut(t *testing.T) {
	a := filled(t, 40)
	before := all(t, a)
	for _, x := range []struct {
		at, n int
		err   api.Errno
	}{
		{math.MaxInt, 0, api.OK},
		{math.MinInt, 0, api.OK},
		{-1, 0, api.OK},
		{3, 0, api.OK},
		{40, 0, api.OK},
		{0, math.MinInt, api.ErrArg},
		{99, -1, api.ErrArg},
		{0, math.MaxInt, api.ErrArg},
		{32, math.MaxInt, api.ErrArg},
		{0, 1 << 61, api.ErrArg},
		{8, 1 << 61, api.ErrArg},
		{0, 1<<61 + 1, api.ErrArg},
		{8, 1<<60 - 1, api.ErrArg},
		{math.MaxInt - 7, 1, api.ErrArg},
		{math.MaxInt - 7, 2, api.ErrArg},
		{math.MinInt, 1, api.ErrArg},
		{math.MinInt, math.MaxInt, api.ErrArg},
		{-8, 2, api.ErrArg},
		{40, 1, api.ErrArg},
	} {
		if err := a.Zero(x.at, x.n); err != x.err {
			t.Errorf("Zero(%d, %d) = %d; want %d", x.at, x.n, err, x.err)
		}
		same(t, a, before, "Zero(%d, %d)", x.at, x.n)
	}
	great := filled(t, api.MaxArena)
	if err := great.Zero(0, api.MaxArena/8+1); err != api.ErrArg {
		t.Error("more words than there are", err)
	}
	if err := great.Zero(0, api.MaxArena/8); err != api.OK || !bytes.Equal(all(t, great), make([]byte, api.MaxArena)) {
		t.Error("all words", err)
	}
	if none := fresh(t, 0); none.Zero(0, 0) != api.OK || none.Zero(0, 1) != api.ErrArg {
		t.Error("of no bytes")
	}
}

// P2.3: what one arena has is nothing to another.
func TestTwoArenas(t *testing.T) {
	a, b := filled(t, 64), fresh(t, 64)
	before := all(t, a)
	putWord(t, b, 8, most64)
	b.Cas(16, 0, most64)
	b.Claim(0, 8, 64, 32, most64, most64)
	b.Zero(0, 8)
	same(t, a, before, "the other one")
	same(t, b, make([]byte, 64), "zeroed")
	if a.Len() != 64 || b.Len() != 64 {
		t.Error("the lengths", a.Len(), b.Len())
	}
}

// plain is what an arena must be, said with a byte at a time, and numbers of any size.
type plain []byte

func (p plain) place(at *big.Int) bool {
	return at.Sign() >= 0 && at.Cmp(big.NewInt(int64(len(p)))) < 0
}

func (p plain) wordPlace(at *big.Int) bool {
	return p.place(at) && at.Int64()%8 == 0
}

func (p plain) hasWord(at int) bool { return p.wordPlace(big.NewInt(int64(at))) }

func (p plain) word(at int) uint64 {
	var x uint64
	for i := 7; i >= 0; i-- {
		x = x*256 + uint64(p[at+i])
	}
	return x
}

func (p plain) put(at int, x uint64) { copy(p, with(p, wordAt{at, x})) }

func (p plain) claim(at int, by, most uint64, base int, first, second uint64) (uint64, bool, api.Errno) {
	if !p.hasWord(at) {
		return 0, false, api.ErrArg
	}
	w := p.word(at)
	used := new(big.Int).SetUint64(w)
	sum := new(big.Int).Add(used, new(big.Int).SetUint64(by))
	if !sum.IsUint64() || sum.Cmp(new(big.Int).SetUint64(most)) > 0 {
		return w, false, api.OK
	}
	to := new(big.Int).Add(used, big.NewInt(int64(base)))
	if w > 65536 || base < 0 || base > 65536 || !p.wordPlace(to) || !p.wordPlace(new(big.Int).Add(to, big.NewInt(8))) {
		return 0, false, api.ErrArg
	}
	p.put(at, sum.Uint64())
	p.put(int(to.Int64()), first)
	p.put(int(to.Int64())+8, second)
	return w, true, api.OK
}

func (p plain) zero(at, n int) api.Errno {
	if n < 0 {
		return api.ErrArg
	}
	for i := 0; i < n; i++ {
		if place := new(big.Int).Add(big.NewInt(int64(at)), big.NewInt(int64(8*i))); !p.wordPlace(place) {
			return api.ErrArg
		}
	}
	for i := 0; i < n; i++ {
		p.put(at+8*i, 0)
	}
	return api.OK
}

// pickInt is a place, a base or a count: mostly one that may be, often one about the ends, sometimes one far out.
func pickInt(r *rand.Rand, n int) int {
	switch r.Intn(8) {
	case 0:
		return r.Intn(n+24) - 12
	case 1:
		return []int{-8, -1, n - 8, n - 1, n, n + 8, math.MaxInt, math.MinInt, math.MaxInt - 7, 1 << 16, 1<<16 + 8}[r.Intn(11)]
	default:
		return 8 * r.Intn(n/8)
	}
}

// pickWord is a number that is mostly small, so that words are places of others.
func pickWord(r *rand.Rand, n int) uint64 {
	switch r.Intn(6) {
	case 0:
		return r.Uint64()
	case 1:
		return most64 - uint64(r.Intn(20))
	case 2:
		return uint64(r.Intn(n + 20))
	default:
		return uint64(8 * r.Intn(n/8))
	}
}

// act makes one call of both, and tells whether they answer alike.
func act(r *rand.Rand, a *Arena, p plain) bool {
	n := len(p)
	at, x, y := pickInt(r, n), pickWord(r, n), pickWord(r, n)
	is := at >= 0 && at < n
	wantErr := api.ErrArg
	if p.hasWord(at) {
		wantErr = api.OK
	}
	switch r.Intn(8) {
	case 0:
		b, err := a.Byte(at)
		return is && b == p[at] && err == api.OK || !is && b == 0 && err == api.ErrArg
	case 1:
		err := a.PutByte(at, byte(x))
		if is {
			p[at] = byte(x)
		}
		return is == (err == api.OK) && is != (err == api.ErrArg)
	case 2:
		w, err := a.Word(at)
		return err == wantErr && (err == api.OK && w == p.word(at) || err != api.OK && w == 0)
	case 3:
		err := a.Put(at, x)
		if wantErr == api.OK {
			p.put(at, x)
		}
		return err == wantErr
	case 4:
		old := x
		if wantErr == api.OK && r.Intn(2) == 0 {
			old = p.word(at)
		}
		ok, err := a.Cas(at, old, y)
		want := wantErr == api.OK && p.word(at) == old
		if want {
			p.put(at, y)
		}
		return ok == want && err == wantErr
	case 5, 6:
		base, most, second := pickInt(r, n), pickWord(r, n), pickWord(r, n)
		if r.Intn(2) == 0 {
			most = most64
		}
		w, ok, err := a.Claim(at, x, most, base, y, second)
		ww, wok, werr := p.claim(at, x, most, base, y, second)
		return w == ww && ok == wok && err == werr
	default:
		count := r.Intn(5) - 1
		err := a.Zero(at, count)
		return err == p.zero(at, count)
	}
}

// P2.3: rows of calls, each held against plain bytes: what was put is there, and nothing else changes.
func TestRowsOfCalls(t *testing.T) {
	for seed := range 60 {
		r := rand.New(rand.NewSource(int64(seed)))
		n := 8 * (1 + r.Intn(16))
		a, p := fresh(t, n), make(plain, n)
		for step := range 600 {
			if !act(r, a, p) {
				t.Fatalf("seed %d, step %d: another answer", seed, step)
			}
			if !bytes.Equal(all(t, a), p) || a.Len() != n {
				t.Fatalf("seed %d, step %d: other bytes", seed, step)
			}
		}
	}
}
