package ctl

import (
	"math"
	"math/rand"
	"testing"

	"penfold/api"
)

// greatest is the last epoch, written out.
const greatest = 16777215

// epochs are some that may be, both ends with them.
func epochs() []int { return []int{0, 1, 2, 1000, 1<<18 - 1, 1 << 23, greatest - 1, greatest} }

// all are the Ctls that may be, of each of these epochs: listed, not asked for.
func all() []api.Ctl {
	var l []api.Ctl
	for _, epoch := range epochs() {
		l = append(l, api.Ctl{State: 0, Count: 0, Parent: -1, Epoch: epoch}, api.Ctl{State: 1, Count: 0, Parent: -1, Epoch: epoch})
		for _, parent := range []int{-1, 0, 1, 2, 3, 4, 5, 6, 7} {
			l = append(l, api.Ctl{State: 3, Count: 0, Parent: parent, Epoch: epoch})
			for _, count := range []int{1, 2, 3, 4, 5, 6, 7} {
				l = append(l, api.Ctl{State: 2, Count: count, Parent: parent, Epoch: epoch})
			}
		}
	}
	return l
}

// none are Ctls that may not be.
func none() []api.Ctl {
	l := []api.Ctl{{}, {State: 1}, {State: 9, Count: 9, Parent: 9, Epoch: -9}}
	for _, state := range []int{-1, -2, 4, 5, 6, 7, 256, 257, 1 << 32, 1<<32 + 1, math.MinInt, math.MaxInt} {
		l = append(l, api.Ctl{State: state, Parent: -1}, api.Ctl{State: state, Count: 1, Parent: 0})
	}
	for _, epoch := range []int{-1, -2, -greatest, math.MinInt, greatest + 1, greatest + 2, 1 << 25, 1 << 32, 1 << 46, math.MaxInt} {
		l = append(l, api.Ctl{State: 0, Parent: -1, Epoch: epoch}, api.Ctl{State: 1, Parent: -1, Epoch: epoch},
			api.Ctl{State: 2, Count: 1, Parent: 0, Epoch: epoch}, api.Ctl{State: 3, Parent: 0, Epoch: epoch})
	}
	for _, count := range []int{-1, -7, 8, 9, 255, 256, 257, 1 << 32, 1<<62 + 1, math.MinInt, math.MinInt + 1, math.MaxInt} {
		for state := range 4 {
			l = append(l, api.Ctl{State: state, Count: count, Parent: -1}, api.Ctl{State: state, Count: count, Parent: 3})
		}
	}
	for _, parent := range []int{-2, -3, -256, -257, 8, 9, 254, 255, 256, 1 << 32, 1 << 54, math.MinInt, math.MinInt + 7, math.MaxInt} {
		for state := range 4 {
			l = append(l, api.Ctl{State: state, Parent: parent}, api.Ctl{State: state, Count: 1, Parent: parent})
		}
	}
	for _, count := range []int{0, 1, 7} {
		for _, parent := range []int{-1, 0, 3, 7} {
			if count != 0 || parent != -1 {
				l = append(l, api.Ctl{State: 0, Count: count, Parent: parent}, api.Ctl{State: 1, Count: count, Parent: parent})
			}
			if count == 0 {
				l = append(l, api.Ctl{State: 2, Count: count, Parent: parent})
			} else {
				l = append(l, api.Ctl{State: 3, Count: count, Parent: parent})
			}
		}
	}
	return l
}

// word is what the document makes of the four parts.
func word(c api.Ctl) uint64 {
	return uint64(c.State) + uint64(c.Count)*4 + uint64(c.Parent+1)*1024 + uint64(c.Epoch)*262144
}

// P3.1: what may be is Right, and what may not be is not.
func TestRight(t *testing.T) {
	for _, c := range all() {
		if !Right(c) {
			t.Errorf("Right(%v) = false", c)
		}
	}
	for _, c := range none() {
		if Right(c) {
			t.Errorf("Right(%v) = true", c)
		}
	}
}

// P3.1: around each bound, all parts together: just those that are listed are Right.
func TestRightJustThose(t *testing.T) {
	may := map[api.Ctl]bool{}
	for _, c := range all() {
		may[c] = true
	}
	for _, epoch := range append(epochs(), -1, greatest+1) {
		for state := -1; state <= 5; state++ {
			for count := -1; count <= 9; count++ {
				for parent := -3; parent <= 9; parent++ {
					c := api.Ctl{State: state, Count: count, Parent: parent, Epoch: epoch}
					if Right(c) != may[c] {
						t.Fatalf("Right(%v) = %v", c, !may[c])
					}
				}
			}
		}
	}
}

// P3.1: words as they are written out.
func TestWords(t *testing.T) {
	for _, x := range []struct {
		c api.Ctl
		w uint64
	}{
		{api.Ctl{State: api.Free, Parent: -1}, 0},
		{api.Ctl{State: api.Idle, Parent: -1}, 1},
		{api.Ctl{State: api.Idle, Parent: -1, Epoch: 1}, 262145}, // the chapter's example
		{api.Ctl{State: api.Live, Count: 1, Parent: -1}, 6},
		{api.Ctl{State: api.Live, Count: 1, Parent: 0}, 1030},
		{api.Ctl{State: api.Live, Count: 7, Parent: 7, Epoch: greatest}, 4398046257182},
		{api.Ctl{State: api.Drain, Parent: -1}, 3},
		{api.Ctl{State: api.Drain, Parent: 7}, 8195},
		{api.Ctl{State: api.Free, Parent: -1, Epoch: greatest}, 1<<42 - 1<<18},
	} {
		if w, err := Pack(x.c); w != x.w || err != api.OK {
			t.Errorf("Pack(%v) = %d, %d; want %d", x.c, w, err, x.w)
		}
		if c, err := Unpack(x.w); c != x.c || err != api.OK {
			t.Errorf("Unpack(%d) = %v, %d; want %v", x.w, c, err, x.c)
		}
	}
}

// P3.1: each one has a word of its own, which tells it again.
func TestThereAndBack(t *testing.T) {
	seen := map[uint64]bool{}
	for _, c := range all() {
		w, err := Pack(c)
		if w != word(c) || err != api.OK || seen[w] {
			t.Errorf("Pack(%v) = %d, %d; want %d", c, w, err, word(c))
		}
		seen[w] = true
		if back, err := Unpack(w); back != c || err != api.OK {
			t.Errorf("Unpack(%d) = %v, %d; want %v", w, back, err, c)
		}
	}
}

// P3.1: what is not Right has no word.
func TestPackRefuses(t *testing.T) {
	for _, c := range none() {
		if w, err := Pack(c); w != 0 || err != api.ErrArg {
			t.Errorf("Pack(%v) = %d, %d; want 0, %d", c, w, err, api.ErrArg)
		}
	}
}

// P3.1: of the words below the first bit of an epoch, in each of some epochs, just those that are some Ctl's tell it.
func TestUnpackJustThose(t *testing.T) {
	of := map[uint64]api.Ctl{}
	for _, c := range all() {
		of[word(c)] = c
	}
	for _, epoch := range []uint64{0, 1, greatest} {
		for low := range uint64(1 << 18) {
			unpacked(t, epoch<<18+low, of)
		}
	}
	// Bits above what an Epoch takes are nobody's, whatever is below them.
	for bit := 42; bit < 64; bit++ {
		for w := range of {
			unpacked(t, w|1<<bit, of)
		}
		unpacked(t, 1<<bit, of)
		unpacked(t, 1<<bit-1, of)
	}
	unpacked(t, math.MaxUint64, of)
	unpacked(t, math.MaxInt64, of)
}

// unpacked holds what Unpack tells against what is listed.
func unpacked(t *testing.T, w uint64, of map[uint64]api.Ctl) {
	t.Helper()
	want, is := of[w]
	wantErr := api.ErrArg
	if is {
		wantErr = api.OK
	}
	if c, err := Unpack(w); c != want || err != wantErr {
		t.Fatalf("Unpack(%d) = %v, %d; want %v, %d", w, c, err, want, wantErr)
	}
}

// P3.1: whatever the word, either it is what Pack makes of what it tells, or nothing is told.
func TestUnpackOfAny(t *testing.T) {
	source := rand.New(rand.NewSource(3))
	told := 0
	for range 200000 {
		w := source.Uint64() >> source.Intn(64)
		if source.Intn(2) == 0 { // near to what may be
			w &= 1<<42 - 1 - 0xe0<<2 - 0xf0<<10
		}
		c, err := Unpack(w)
		if err == api.ErrArg {
			if c != (api.Ctl{}) {
				t.Fatalf("Unpack(%d) = %v, %d", w, c, err)
			}
			continue
		}
		told++
		if back, e := Pack(c); err != api.OK || back != w || e != api.OK || word(c) != w {
			t.Fatalf("Unpack(%d) = %v, %d; Pack = %d, %d", w, c, err, back, e)
		}
	}
	if told < 1000 {
		t.Errorf("only %d words were told", told)
	}
}

type step struct {
	c, want api.Ctl
	err     api.Errno
}

// P3.2: Enter, as it is written out.
func TestEnter(t *testing.T) {
	live := func(count, parent, epoch int) api.Ctl {
		return api.Ctl{State: api.Live, Count: count, Parent: parent, Epoch: epoch}
	}
	idle := func(epoch int) api.Ctl { return api.Ctl{State: api.Idle, Parent: -1, Epoch: epoch} }
	for _, x := range []struct {
		step
		from int
	}{
		{step{idle(0), live(1, 0, 0), api.OK}, 0}, // the chapter's example
		{step{idle(greatest), live(1, 7, greatest), api.OK}, 7},
		{step{live(1, 0, 0), live(2, 0, 0), api.OK}, 0},
		{step{live(6, 7, 5), live(7, 7, 5), api.OK}, 7},
		{step{live(7, 7, 5), api.Ctl{}, api.ErrCount}, 7},
		{step{live(7, 0, greatest), api.Ctl{}, api.ErrCount}, 0},
		{step{live(7, 7, 5), api.Ctl{}, api.ErrCycle}, 6},
		{step{live(1, 0, 0), api.Ctl{}, api.ErrCycle}, 1},
		{step{live(1, -1, 0), api.Ctl{}, api.ErrCycle}, 0},
		{step{live(1, -1, 0), api.Ctl{}, api.ErrArg}, -1}, // even where it is the Parent
		{step{api.Ctl{Parent: -1}, api.Ctl{}, api.ErrScope}, 0},
		{step{api.Ctl{Parent: -1, Epoch: greatest}, api.Ctl{}, api.ErrScope}, 7},
		{step{api.Ctl{State: api.Drain, Parent: -1}, api.Ctl{}, api.ErrWait}, 0},
		{step{api.Ctl{State: api.Drain, Parent: 0}, api.Ctl{}, api.ErrWait}, 0},
		{step{api.Ctl{State: api.Drain, Parent: 0}, api.Ctl{}, api.ErrWait}, 7},
	} {
		if c, err := Enter(x.c, x.from); c != x.want || err != x.err {
			t.Errorf("Enter(%v, %d) = %v, %d; want %v, %d", x.c, x.from, c, err, x.want, x.err)
		}
	}
}

// entered is what the document tells of Enter where both arguments may be.
func entered(c api.Ctl, from int) (api.Ctl, api.Errno) {
	if c.State == 0 {
		return api.Ctl{}, 11
	}
	if c.State == 3 {
		return api.Ctl{}, 10
	}
	if c.State == 1 {
		return api.Ctl{State: 2, Count: 1, Parent: from, Epoch: c.Epoch}, 0
	}
	if c.Parent != from {
		return api.Ctl{}, 15
	}
	if c.Count == 7 {
		return api.Ctl{}, 16
	}
	return api.Ctl{State: 2, Count: c.Count + 1, Parent: c.Parent, Epoch: c.Epoch}, 0
}

// P3.2: Enter of each one, from each scope.
func TestEnterAll(t *testing.T) {
	for _, c := range all() {
		for from := range 8 {
			want, wantErr := entered(c, from)
			if got, err := Enter(c, from); got != want || err != wantErr {
				t.Errorf("Enter(%v, %d) = %v, %d; want %v, %d", c, from, got, err, want, wantErr)
			}
		}
	}
}

// P3.2: ErrArg comes ahead of all else: of what is not Right, and of a from that is no scope.
func TestEnterRefuses(t *testing.T) {
	wrong := []int{-1, -2, -8, math.MinInt, 8, 9, 255, 256, 1 << 32, math.MaxInt}
	for _, c := range all() {
		for _, from := range wrong {
			if got, err := Enter(c, from); got != (api.Ctl{}) || err != api.ErrArg {
				t.Errorf("Enter(%v, %d) = %v, %d; want none, %d", c, from, got, err, api.ErrArg)
			}
		}
	}
	for _, c := range none() {
		for _, from := range append([]int{0, 3, 7, c.Parent}, wrong...) {
			if got, err := Enter(c, from); got != (api.Ctl{}) || err != api.ErrArg {
				t.Errorf("Enter(%v, %d) = %v, %d; want none, %d", c, from, got, err, api.ErrArg)
			}
		}
	}
}

// P3.2: Leave, Open and Hold, as they are written out.
func TestLeaveOpenHold(t *testing.T) {
	free, idle := api.Ctl{State: api.Free, Parent: -1, Epoch: 4}, api.Ctl{State: api.Idle, Parent: -1, Epoch: 4}
	one := api.Ctl{State: api.Live, Count: 1, Parent: 3, Epoch: 4}
	drain := api.Ctl{State: api.Drain, Parent: 3, Epoch: 4}
	for _, x := range []struct {
		name string
		call func(api.Ctl) (api.Ctl, api.Errno)
		rows []step
	}{
		{"Leave", Leave, []step{
			{one, drain, api.OK},
			{api.Ctl{State: 2, Count: 2, Parent: 3, Epoch: 4}, one, api.OK},
			{api.Ctl{State: 2, Count: 7, Parent: 7, Epoch: greatest}, api.Ctl{State: 2, Count: 6, Parent: 7, Epoch: greatest}, api.OK},
			{api.Ctl{State: 2, Count: 1, Parent: -1, Epoch: greatest}, api.Ctl{State: 3, Parent: -1, Epoch: greatest}, api.OK},
			{free, api.Ctl{}, api.ErrScope}, {idle, api.Ctl{}, api.ErrScope}, {drain, api.Ctl{}, api.ErrScope},
		}},
		{"Open", Open, []step{
			{drain, api.Ctl{State: 1, Parent: -1, Epoch: 5}, api.OK},
			{api.Ctl{State: 3, Parent: -1}, api.Ctl{State: 1, Parent: -1, Epoch: 1}, api.OK},
			{api.Ctl{State: 3, Parent: 0, Epoch: greatest - 1}, api.Ctl{State: 1, Parent: -1, Epoch: greatest}, api.OK},
			{api.Ctl{State: 3, Parent: 7, Epoch: greatest}, api.Ctl{State: 1, Parent: -1, Epoch: 0}, api.OK},
			{free, api.Ctl{}, api.ErrScope}, {idle, api.Ctl{}, api.ErrScope}, {one, api.Ctl{}, api.ErrScope},
		}},
		{"Hold", Hold, []step{
			{drain, one, api.OK},
			{api.Ctl{State: 3, Parent: -1}, api.Ctl{State: 2, Count: 1, Parent: -1}, api.OK},
			{api.Ctl{State: 3, Parent: 7, Epoch: greatest}, api.Ctl{State: 2, Count: 1, Parent: 7, Epoch: greatest}, api.OK},
			{free, api.Ctl{}, api.ErrScope}, {idle, api.Ctl{}, api.ErrScope}, {one, api.Ctl{}, api.ErrScope},
		}},
	} {
		for _, r := range x.rows {
			if c, err := x.call(r.c); c != r.want || err != r.err {
				t.Errorf("%s(%v) = %v, %d; want %v, %d", x.name, r.c, c, err, r.want, r.err)
			}
		}
		for _, c := range none() {
			if got, err := x.call(c); got != (api.Ctl{}) || err != api.ErrArg {
				t.Errorf("%s(%v) = %v, %d; want none, %d", x.name, c, got, err, api.ErrArg)
			}
		}
	}
}

// P3.2: Leave, Open and Hold of each one.
func TestLeaveOpenHoldAll(t *testing.T) {
	for _, c := range all() {
		left, opened, held := step{err: 11}, step{err: 11}, step{err: 11}
		if c.State == 2 && c.Count > 1 {
			left = step{want: api.Ctl{State: 2, Count: c.Count - 1, Parent: c.Parent, Epoch: c.Epoch}}
		}
		if c.State == 2 && c.Count == 1 {
			left = step{want: api.Ctl{State: 3, Parent: c.Parent, Epoch: c.Epoch}}
		}
		if c.State == 3 {
			opened = step{want: api.Ctl{State: 1, Parent: -1, Epoch: (c.Epoch + 1) % (1 << 24)}}
			held = step{want: api.Ctl{State: 2, Count: 1, Parent: c.Parent, Epoch: c.Epoch}}
		}
		if got, err := Leave(c); got != left.want || err != left.err {
			t.Errorf("Leave(%v) = %v, %d; want %v, %d", c, got, err, left.want, left.err)
		}
		if got, err := Open(c); got != opened.want || err != opened.err {
			t.Errorf("Open(%v) = %v, %d; want %v, %d", c, got, err, opened.want, opened.err)
		}
		if got, err := Hold(c); got != held.want || err != held.err {
			t.Errorf("Hold(%v) = %v, %d; want %v, %d", c, got, err, held.want, held.err)
		}
	}
}

// P3.2: what is told may be again, so that its word can be put.
func TestToldIsRight(t *testing.T) {
	for _, c := range all() {
		for _, call := range []func(api.Ctl) (api.Ctl, api.Errno){Leave, Open, Hold, func(c api.Ctl) (api.Ctl, api.Errno) { return Enter(c, max(c.Parent, 0)) }} {
			if got, err := call(c); err == api.OK && !Right(got) {
				t.Errorf("of %v comes %v", c, got)
			}
		}
	}
}

// P3.3: entered, and left, it is as it was, as long as somebody is within; entered by the first one, and left, it is on its way out.
func TestEnteredAndLeft(t *testing.T) {
	held := 0
	for _, c := range all() {
		for from := range 8 {
			in, err := Enter(c, from)
			if err != api.OK {
				continue
			}
			out, err := Leave(in)
			want := c
			if c.State == api.Idle {
				want = api.Ctl{State: api.Drain, Parent: from, Epoch: c.Epoch}
			} else {
				held++
			}
			if out != want || err != api.OK {
				t.Errorf("%v, entered from %d: %v, and left: %v, %d; want %v", c, from, in, out, err, want)
			}
		}
	}
	if want := len(epochs()) * 8 * 6; held != want {
		t.Errorf("%d were entered where somebody was within, want %d", held, want)
	}
}

// P3.3: and likewise left, and entered from where it was, if somebody else stays.
func TestLeftAndEntered(t *testing.T) {
	for _, c := range all() {
		if c.State != api.Live || c.Count == 1 || c.Parent == -1 {
			continue
		}
		out, err := Leave(c)
		if err != api.OK {
			t.Errorf("Leave(%v) = %v, %d", c, out, err)
		}
		if in, err := Enter(out, c.Parent); in != c || err != api.OK {
			t.Errorf("%v, left, and entered: %v, %d", c, in, err)
		}
	}
}

// P3.2, P3.3: a whole life: seven come, seven go, it is held once, left again, and opened.
func TestLife(t *testing.T) {
	c := api.Ctl{State: api.Idle, Parent: -1, Epoch: greatest}
	step := func(next api.Ctl, err api.Errno) {
		t.Helper()
		if err != api.OK {
			t.Fatalf("of %v: %d", c, err)
		}
		c = next
	}
	for range 7 {
		step(Enter(c, 2))
	}
	for range 7 {
		step(Leave(c))
	}
	step(Hold(c))
	step(Enter(c, 2))
	step(Leave(c))
	step(Leave(c))
	step(Open(c))
	if c != (api.Ctl{State: api.Idle, Parent: -1, Epoch: 0}) {
		t.Errorf("in the end it is %v", c)
	}
}
