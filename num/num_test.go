package num

import (
	"math"
	"math/big"
	"testing"

	"penfold/api"
)

// edges are numbers about which a sum, or a rounding, may go wrong.
func edges() []int {
	var l []int
	for _, middle := range []int{0, 64, -64, 1 << 31, 1 << 32, -1 << 31, math.MaxInt / 2, math.MinInt / 2} {
		for d := -9; d <= 9; d++ {
			l = append(l, middle+d)
		}
	}
	for d := range 18 {
		l = append(l, math.MinInt+d, math.MaxInt-d)
	}
	return l
}

// fit is what a call must answer of a number of any size.
func fit(x *big.Int) (int, api.Errno) {
	if !x.IsInt64() {
		return 0, api.ErrOver
	}
	return int(x.Int64()), api.OK
}

// upOf rounds up without any bound, by counting on to the next multiple of 8.
func upOf(n int) (int, api.Errno) {
	if n < 0 {
		return 0, api.ErrArg
	}
	x, eight, rest := big.NewInt(int64(n)), big.NewInt(8), new(big.Int)
	for rest.Mod(x, eight).Sign() != 0 {
		x.Add(x, big.NewInt(1))
	}
	return fit(x)
}

// P1.1: the sum, written out: what just fits, and what just does not.
func TestAddTable(t *testing.T) {
	for _, x := range []struct {
		a, b, sum int
		err       api.Errno
	}{
		{0, 0, 0, api.OK},
		{2, 3, 5, api.OK},
		{7, -9, -2, api.OK},
		{-4, -5, -9, api.OK},
		{math.MaxInt, 0, math.MaxInt, api.OK},
		{0, math.MaxInt, math.MaxInt, api.OK},
		{math.MaxInt - 1, 1, math.MaxInt, api.OK},
		{math.MaxInt, 1, 0, api.ErrOver},
		{1, math.MaxInt, 0, api.ErrOver},
		{math.MaxInt, math.MaxInt, 0, api.ErrOver},
		{math.MinInt, 0, math.MinInt, api.OK},
		{0, math.MinInt, math.MinInt, api.OK},
		{math.MinInt + 1, -1, math.MinInt, api.OK},
		{math.MinInt, -1, 0, api.ErrOver},
		{-1, math.MinInt, 0, api.ErrOver},
		{math.MinInt, math.MinInt, 0, api.ErrOver},
		{math.MaxInt, math.MinInt, -1, api.OK},
		{math.MinInt, math.MaxInt, -1, api.OK},
		{1 << 62, 1 << 62, 0, api.ErrOver},
		{1 << 62, 1<<62 - 1, math.MaxInt, api.OK},
		{-1 << 62, -1 << 62, math.MinInt, api.OK},
		{-1 << 62, -1<<62 - 1, 0, api.ErrOver},
	} {
		if sum, err := Add(x.a, x.b); sum != x.sum || err != x.err {
			t.Errorf("Add(%d, %d) = %d, %d; want %d, %d", x.a, x.b, sum, err, x.sum, x.err)
		}
	}
}

// P1.1: every edge with every edge, held against sums without bounds.
func TestAddEdges(t *testing.T) {
	for _, a := range edges() {
		for _, b := range edges() {
			want, wantErr := fit(new(big.Int).Add(big.NewInt(int64(a)), big.NewInt(int64(b))))
			if sum, err := Add(a, b); sum != want || err != wantErr {
				t.Fatalf("Add(%d, %d) = %d, %d; want %d, %d", a, b, sum, err, want, wantErr)
			}
		}
	}
}

// P1.1: Up and Words, written out: multiples of 8 and their neighbours, numbers below 0, and the last ones that fit.
func TestUpAndWordsTable(t *testing.T) {
	const last = math.MaxInt - 7
	for _, x := range []struct {
		n, up, words int
		err          api.Errno
	}{
		{0, 0, 0, api.OK},
		{1, 8, 1, api.OK},
		{7, 8, 1, api.OK},
		{8, 8, 1, api.OK},
		{9, 16, 2, api.OK},
		{15, 16, 2, api.OK},
		{16, 16, 2, api.OK},
		{17, 24, 3, api.OK},
		{511, 512, 64, api.OK},
		{512, 512, 64, api.OK},
		{513, 520, 65, api.OK},
		{-1, 0, 0, api.ErrArg},
		{-7, 0, 0, api.ErrArg},
		{-8, 0, 0, api.ErrArg},
		{math.MinInt, 0, 0, api.ErrArg},
		{last - 8, last - 8, 1<<60 - 2, api.OK},
		{last - 7, last, 1<<60 - 1, api.OK},
		{last - 1, last, 1<<60 - 1, api.OK},
		{last, last, 1<<60 - 1, api.OK},
		{last + 1, 0, 0, api.ErrOver},
		{math.MaxInt - 1, 0, 0, api.ErrOver},
		{math.MaxInt, 0, 0, api.ErrOver},
	} {
		if up, err := Up(x.n); up != x.up || err != x.err {
			t.Errorf("Up(%d) = %d, %d; want %d, %d", x.n, up, err, x.up, x.err)
		}
		if words, err := Words(x.n); words != x.words || err != x.err {
			t.Errorf("Words(%d) = %d, %d; want %d, %d", x.n, words, err, x.words, x.err)
		}
	}
}

// P1.1: Up and Words of a row of small numbers and of every edge, held against counting on.
func TestUpAndWordsEdges(t *testing.T) {
	numbers := edges()
	for n := range 1100 {
		numbers = append(numbers, n)
	}
	for _, n := range numbers {
		want, wantErr := upOf(n)
		if up, err := Up(n); up != want || err != wantErr {
			t.Errorf("Up(%d) = %d, %d; want %d, %d", n, up, err, want, wantErr)
		}
		if words, err := Words(n); words != want/8 || err != wantErr {
			t.Errorf("Words(%d) = %d, %d; want %d, %d", n, words, err, want/8, wantErr)
		}
	}
}

// P1.1: both bounds are within, their neighbours outside are not, and nothing is within a low above the high.
func TestWithin(t *testing.T) {
	for _, x := range []struct {
		n, low, high int
		want         bool
	}{
		{3, 1, 5, true},
		{1, 1, 5, true},
		{5, 1, 5, true},
		{0, 1, 5, false},
		{6, 1, 5, false},
		{0, 0, 0, true},
		{-1, 0, 0, false},
		{1, 0, 0, false},
		{-3, -5, -1, true},
		{-6, -5, -1, false},
		{3, 5, 1, false},
		{5, 5, 1, false},
		{1, 5, 1, false},
		{0, 1, 0, false},
		{0, math.MaxInt, math.MinInt, false},
		{0, math.MinInt, math.MaxInt, true},
		{math.MinInt, math.MinInt, math.MaxInt, true},
		{math.MaxInt, math.MinInt, math.MaxInt, true},
		{math.MaxInt, math.MaxInt, math.MaxInt, true},
		{math.MaxInt - 1, math.MaxInt, math.MaxInt, false},
		{math.MinInt, math.MinInt, math.MinInt, true},
		{math.MinInt + 1, math.MinInt, math.MinInt, false},
		{math.MaxInt, math.MinInt, 0, false},
		{math.MinInt, 0, math.MaxInt, false},
	} {
		if got := Within(x.n, x.low, x.high); got != x.want {
			t.Errorf("Within(%d, %d, %d) = %t; want %t", x.n, x.low, x.high, got, x.want)
		}
	}
}

// P1.2: what was rounded up stays as it is, rounded up again, and takes the words that it took.
func TestRoundedOnce(t *testing.T) {
	numbers := edges()
	for n := range 1100 {
		numbers = append(numbers, n)
	}
	rounded := 0
	for _, n := range numbers {
		up, err := Up(n)
		if err != api.OK {
			continue
		}
		rounded++
		if up%8 != 0 || up < n || up-n > 7 {
			t.Errorf("Up(%d) = %d: not the next multiple of 8", n, up)
		}
		if again, err := Up(up); again != up || err != api.OK {
			t.Errorf("Up(Up(%d)) = %d, %d; want %d, 0", n, again, err, up)
		}
		words, _ := Words(n)
		if again, err := Words(up); again != words || words*8 != up || err != api.OK {
			t.Errorf("Words(Up(%d)) = %d, %d; want %d, 0", n, again, err, words)
		}
	}
	if rounded < 1100 {
		t.Errorf("only %d numbers were rounded up", rounded)
	}
}
