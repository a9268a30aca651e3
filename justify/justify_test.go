package justify

import (
	"math"
	"testing"

	"psephos/api"
)

// The roots say whose checkpoint one is, even where epochs are alike.
const (
	rootPrevious = 1 + iota
	rootCurrent
	rootFinal
	rootFirst
	rootSecond
)

// of is four bits, from four letters, y for yes.
func of(letters string) [4]bool {
	var bits [4]bool
	for i := range bits {
		bits[i] = letters[i] == 'y'
	}
	return bits
}

// allBits are all sets of four bits.
func allBits() [][4]bool {
	var all [][4]bool
	for n := range 16 {
		all = append(all, [4]bool{n&1 > 0, n&2 > 0, n&4 > 0, n&8 > 0})
	}
	return all
}

// state is one with those bits, whose checkpoints are of those epochs.
func state(bits [4]bool, previous, current, final int) State {
	return State{
		Bits:     bits,
		Previous: api.Point{Epoch: previous, Root: rootPrevious},
		Current:  api.Point{Epoch: current, Root: rootCurrent},
		Final:    api.Point{Epoch: final, Root: rootFinal},
	}
}

// next is Next with checkpoints as they should be: of the epoch ahead, and of the epoch.
func next(s State, epoch int, before, now bool) State {
	first := api.Point{Epoch: epoch - 1, Root: rootFirst}
	second := api.Point{Epoch: epoch, Root: rootSecond}
	return Next(s, epoch, before, now, first, second)
}

// P8.1, the chapter's example.

func TestExample(t *testing.T) {
	s := State{Bits: of("ynnn"), Current: api.Point{Epoch: 4, Root: 40}}
	first, second := api.Point{Epoch: 4, Root: 40}, api.Point{Epoch: 5, Root: 50}
	want := State{
		Bits:     of("yynn"),
		Previous: api.Point{Epoch: 4, Root: 40},
		Current:  api.Point{Epoch: 5, Root: 50},
		Final:    api.Point{Epoch: 4, Root: 40},
	}
	if got := Next(s, 5, false, true, first, second); got != want {
		t.Errorf("Next: %v, want %v", got, want)
	}
}

func TestZeroState(t *testing.T) {
	if got := Next(State{}, 0, false, false, api.Point{}, api.Point{}); got != (State{}) {
		t.Errorf("Next of nothing: %v, want nothing", got)
	}
}

// P8.1, Bits.

func TestBits(t *testing.T) {
	tests := []struct{ bits, neither, before, now, both string }{
		{"nnnn", "nnnn", "nynn", "ynnn", "yynn"},
		{"ynnn", "nynn", "nynn", "yynn", "yynn"},
		{"nynn", "nnyn", "nyyn", "ynyn", "yyyn"},
		{"yynn", "nyyn", "nyyn", "yyyn", "yyyn"},
		{"nnyn", "nnny", "nyny", "ynny", "yyny"},
		{"ynyn", "nyny", "nyny", "yyny", "yyny"},
		{"nyyn", "nnyy", "nyyy", "ynyy", "yyyy"},
		{"yyyn", "nyyy", "nyyy", "yyyy", "yyyy"},
		{"nnny", "nnnn", "nynn", "ynnn", "yynn"},
		{"ynny", "nynn", "nynn", "yynn", "yynn"},
		{"nyny", "nnyn", "nyyn", "ynyn", "yyyn"},
		{"yyny", "nyyn", "nyyn", "yyyn", "yyyn"},
		{"nnyy", "nnny", "nyny", "ynny", "yyny"},
		{"ynyy", "nyny", "nyny", "yyny", "yyny"},
		{"nyyy", "nnyy", "nyyy", "ynyy", "yyyy"},
		{"yyyy", "nyyy", "nyyy", "yyyy", "yyyy"},
	}
	for _, x := range tests {
		for _, y := range []struct {
			before, now bool
			want        string
		}{
			{false, false, x.neither},
			{true, false, x.before},
			{false, true, x.now},
			{true, true, x.both},
		} {
			s := state(of(x.bits), 7, 8, 6)
			if got := next(s, 9, y.before, y.now).Bits; got != of(y.want) {
				t.Errorf("bits %s, before %v, now %v: Bits %v, want %s", x.bits, y.before, y.now, got, y.want)
			}
		}
	}
}

// P8.1, Previous and Current.

func TestPreviousAndCurrent(t *testing.T) {
	tests := []struct {
		name        string
		before, now bool
		want        api.Point
	}{
		{"neither", false, false, api.Point{Epoch: 8, Root: rootCurrent}},
		{"before", true, false, api.Point{Epoch: 9, Root: rootFirst}},
		{"now", false, true, api.Point{Epoch: 10, Root: rootSecond}},
		{"both", true, true, api.Point{Epoch: 10, Root: rootSecond}},
	}
	for _, x := range tests {
		for _, bits := range allBits() {
			s := state(bits, 7, 8, 6)
			got := next(s, 10, x.before, x.now)
			if got.Previous != s.Current {
				t.Errorf("%s, bits %v: Previous %v, want %v", x.name, bits, got.Previous, s.Current)
			}
			if got.Current != x.want {
				t.Errorf("%s, bits %v: Current %v, want %v", x.name, bits, got.Current, x.want)
			}
		}
	}
}

// Next takes the checkpoints as they are told, whatever their epochs: they do not hang on epoch.
func TestCheckpointsOfAnyEpoch(t *testing.T) {
	epochs := []int{0, -1, 1, 9, 10, 11, math.MinInt, math.MaxInt}
	for _, e := range epochs {
		for _, f := range epochs {
			s := state(of("nnnn"), 3, 4, 2)
			first, second := api.Point{Epoch: e, Root: rootFirst}, api.Point{Epoch: f, Root: rootSecond}
			if got := Next(s, 10, true, false, first, second); got.Current != first || got.Final != s.Final {
				t.Errorf("before, %v, %v: Current %v, Final %v, want %v, %v", first, second, got.Current, got.Final, first, s.Final)
			}
			if got := Next(s, 10, false, true, first, second); got.Current != second || got.Final != s.Final {
				t.Errorf("now, %v, %v: Current %v, Final %v, want %v, %v", first, second, got.Current, got.Final, second, s.Final)
			}
			if got := Next(s, 10, true, true, first, second); got.Current != second || got.Final != s.Final {
				t.Errorf("both, %v, %v: Current %v, Final %v, want %v, %v", first, second, got.Current, got.Final, second, s.Final)
			}
			if got := Next(s, 10, false, false, first, second); got.Current != s.Current || got.Final != s.Final {
				t.Errorf("neither, %v, %v: Current %v, Final %v, want %v, %v", first, second, got.Current, got.Final, s.Current, s.Final)
			}
		}
	}
}

// P8.1, Final: each of the four ways, with its epoch right and next to it. Epochs are told as so much below 10; 9 below is far.

const far = 9

func TestFinal(t *testing.T) {
	tests := []struct {
		name              string
		bits              string
		before, now       bool
		previous, current int
		want              uint64
	}{
		{"first way, by the bit ahead", "ynnn", false, true, far, 1, rootCurrent},
		{"first way, by before", "nnnn", true, true, far, 1, rootCurrent},
		{"first way, one too low", "ynnn", false, true, far, 2, rootFinal},
		{"first way, one too high", "ynnn", false, true, far, 0, rootFinal},
		{"first way, Previous instead", "ynnn", false, true, 1, far, rootFinal},
		{"first way, without the first bit", "ynnn", false, false, far, 1, rootFinal},
		{"first way, without the first bit, before", "ynnn", true, false, far, 1, rootFinal},
		{"first way, without the second bit", "nyyy", false, true, far, 1, rootFinal},
		{"first way, the bits that were", "yynn", false, false, far, 1, rootFinal},
		{"first way, without the third bit", "ynyn", false, true, far, 1, rootCurrent},
		{"first way, with all bits", "yyyy", true, true, far, 1, rootCurrent},

		{"second way, by the bits ahead", "yynn", false, true, far, 2, rootCurrent},
		{"second way, by before", "nynn", true, true, far, 2, rootCurrent},
		{"second way, one too low", "yynn", false, true, far, 3, rootFinal},
		{"second way, one too high, without the second bit", "nynn", false, true, far, 1, rootFinal},
		{"second way, one too high: the first way", "yynn", false, true, far, 1, rootCurrent},
		{"second way, two too high", "yynn", false, true, far, 0, rootFinal},
		{"second way, without the first bit", "yynn", true, false, far, 2, rootFinal},
		{"second way, without the second bit", "nynn", false, true, far, 2, rootFinal},
		{"second way, without the third bit", "ynyn", true, true, far, 2, rootFinal},
		{"second way, the bits that were", "yyyn", false, false, far, 2, rootFinal},
		{"second way, with all bits", "yyyy", true, true, far, 2, rootCurrent},

		{"third way, by the bits ahead", "yynn", false, false, 2, far, rootPrevious},
		{"third way, by before", "nynn", true, false, 2, far, rootPrevious},
		{"third way, with the first bit", "nynn", true, true, 2, far, rootPrevious},
		{"third way, one too low", "nynn", true, false, 3, far, rootFinal},
		{"third way, one too high", "nynn", true, false, 1, far, rootFinal},
		{"third way, Current instead", "nynn", true, false, far, 2, rootFinal},
		{"third way, without the second bit", "nynn", false, false, 2, far, rootFinal},
		{"third way, without the second bit, now", "nyyy", false, true, 2, far, rootFinal},
		{"third way, without the third bit", "ynyn", true, true, 2, far, rootFinal},
		{"third way, the bits that were", "nyyn", false, false, 2, far, rootFinal},
		{"third way, with all bits", "yyyy", true, true, 2, far, rootPrevious},

		{"fourth way, by the bits ahead", "yyyn", false, false, 3, far, rootPrevious},
		{"fourth way, by before", "nyyn", true, false, 3, far, rootPrevious},
		{"fourth way, with the first bit", "nyyn", true, true, 3, far, rootPrevious},
		{"fourth way, one too low", "nyyn", true, false, 4, far, rootFinal},
		{"fourth way, one too high: the third way", "nyyn", true, false, 2, far, rootPrevious},
		{"fourth way, one too high, without the second bit", "nyyn", false, true, 2, far, rootFinal},
		{"fourth way, two too high", "nyyn", true, false, 1, far, rootFinal},
		{"fourth way, Current instead", "nyyn", true, false, far, 3, rootFinal},
		{"fourth way, without the second bit", "nyyn", false, true, 3, far, rootFinal},
		{"fourth way, without the third bit", "ynyn", true, true, 3, far, rootFinal},
		{"fourth way, without the fourth bit", "yyny", true, true, 3, far, rootFinal},
		{"fourth way, the bits that were", "nyyy", false, false, 3, far, rootFinal},
		{"fourth way, with all bits", "yyyy", true, true, 3, far, rootPrevious},

		{"nothing new, no bits", "nnnn", false, false, 2, 1, rootFinal},
		{"nothing new, one bit", "nnnn", false, true, 2, 1, rootFinal},
		{"nothing new, all bits, far", "yyyy", true, true, far, far, rootFinal},
		{"nothing new, all bits, both behind", "yyyy", true, true, -1, -2, rootFinal},
		{"nothing new, all bits, both of the epoch", "yyyy", true, true, 0, 0, rootFinal},
	}
	for _, x := range tests {
		s := state(of(x.bits), 10-x.previous, 10-x.current, 1)
		want := map[uint64]api.Point{rootPrevious: s.Previous, rootCurrent: s.Current, rootFinal: s.Final}[x.want]
		if got := next(s, 10, x.before, x.now).Final; got != want {
			t.Errorf("%s: Final %v, want %v", x.name, got, want)
		}
	}
}

// P8.1, the first of the ways that are so counts.

func TestFirstWayCounts(t *testing.T) {
	tests := []struct {
		name              string
		bits              string
		before, now       bool
		previous, current int
		want              uint64
	}{
		{"the first and the third", "yynn", false, true, 2, 1, rootCurrent},
		{"the first and the third, by before", "nynn", true, true, 2, 1, rootCurrent},
		{"the first and the fourth", "yyyn", false, true, 3, 1, rootCurrent},
		{"the second and the third, of one epoch", "yynn", false, true, 2, 2, rootCurrent},
		{"the second and the fourth", "yyyn", false, true, 3, 2, rootCurrent},
		{"the first is not so, the third is", "yynn", true, false, 2, 1, rootPrevious},
		{"the first is not so, the fourth is", "yyyn", true, false, 3, 1, rootPrevious},
		{"the second is not so, the third is", "yynn", true, false, 2, 2, rootPrevious},
		{"the second is not so, the fourth is", "yyyn", true, false, 3, 2, rootPrevious},
	}
	for _, x := range tests {
		s := state(of(x.bits), 10-x.previous, 10-x.current, 1)
		want := s.Current
		if x.want == rootPrevious {
			want = s.Previous
		}
		if got := next(s, 10, x.before, x.now).Final; got != want {
			t.Errorf("%s: Final %v, want %v", x.name, got, want)
		}
	}
}

// What is final is not held against what was: of an earlier epoch it counts, too.
func TestFinalMayBeEarlier(t *testing.T) {
	s := state(of("ynnn"), 3, 9, 100)
	if got := next(s, 10, false, true).Final; got != s.Current {
		t.Errorf("Final %v, want %v", got, s.Current)
	}
}

// P8.1, W5: epochs at and below 0, and at the ends, where so many below goes round.

func TestEpochsGoRound(t *testing.T) {
	const least, most = math.MinInt, math.MaxInt
	tests := []struct{ epoch, one, two, three int }{
		{3, 2, 1, 0},
		{2, 1, 0, -1},
		{1, 0, -1, -2},
		{0, -1, -2, -3},
		{-1, -2, -3, -4},
		{-100, -101, -102, -103},
		{most, most - 1, most - 2, most - 3},
		{least + 3, least + 2, least + 1, least},
		{least + 2, least + 1, least, most},
		{least + 1, least, most, most - 1},
		{least, most, most - 1, most - 2},
	}
	for _, x := range tests {
		away := x.epoch ^ 1<<40
		for _, y := range []struct {
			name              string
			bits              string
			before, now       bool
			previous, current int
			want              uint64
		}{
			{"one below", "ynnn", false, true, away, x.one, rootCurrent},
			{"one below, too low", "ynnn", false, true, away, x.two, rootFinal},
			{"one below, too high", "ynnn", false, true, away, x.epoch, rootFinal},
			{"two below", "yynn", false, true, away, x.two, rootCurrent},
			{"two below, too low", "yynn", false, true, away, x.three, rootFinal},
			{"two below, too high", "yynn", false, true, away, x.epoch, rootFinal},
			{"Previous two below", "nynn", true, false, x.two, away, rootPrevious},
			{"Previous two below, too low", "nynn", true, false, x.three, away, rootFinal},
			{"Previous two below, too high", "nynn", true, false, x.one, away, rootFinal},
			{"Previous three below", "nyyn", true, false, x.three, away, rootPrevious},
			{"Previous three below, too low", "nyyn", true, false, x.three - 1, away, rootFinal},
			{"Previous three below, too high", "nyyn", true, false, x.one, away, rootFinal},
		} {
			s := state(of(y.bits), y.previous, y.current, 1)
			want := map[uint64]api.Point{rootPrevious: s.Previous, rootCurrent: s.Current, rootFinal: s.Final}[y.want]
			if got := next(s, x.epoch, y.before, y.now).Final; got != want {
				t.Errorf("epoch %d, %s: Final %v, want %v", x.epoch, y.name, got, want)
			}
		}
	}
}

// P8.1, all of it, as a list of the ways in the document's order.

// way is one to a new Final: which of the bits it needs, from which one on, whose checkpoint it takes, and how far below.
type way struct {
	from, count int
	point       func(s State) api.Point
	below       int
}

func ways() []way {
	previous := func(s State) api.Point { return s.Previous }
	current := func(s State) api.Point { return s.Current }
	return []way{{0, 2, current, 1}, {0, 3, current, 2}, {1, 2, previous, 2}, {1, 3, previous, 3}}
}

// said is Next as the document says it.
func said(s State, epoch int, before, now bool, first, second api.Point) State {
	n := s
	n.Previous = s.Current
	copy(n.Bits[1:], s.Bits[:3])
	n.Bits[0] = now
	if before {
		n.Bits[1] = true
	}
	switch {
	case now:
		n.Current = second
	case before:
		n.Current = first
	}
	for _, w := range ways() {
		yes := 0
		for _, bit := range n.Bits[w.from : w.from+w.count] {
			if bit {
				yes++
			}
		}
		if p := w.point(s); yes == w.count && p.Epoch == epoch-w.below {
			n.Final = p
			break
		}
	}
	return n
}

func TestAllOfIt(t *testing.T) {
	yesNo := []bool{false, true}
	for _, epoch := range []int{0, 1, 2, 3, 10, -1, -10, math.MinInt, math.MinInt + 1, math.MinInt + 2, math.MaxInt} {
		for previous := -1; previous <= 5; previous++ {
			for current := -1; current <= 5; current++ {
				for _, bits := range allBits() {
					for _, before := range yesNo {
						for _, now := range yesNo {
							checkSaid(t, state(bits, epoch-previous, epoch-current, 1), epoch, before, now)
						}
					}
				}
			}
		}
	}
}

func checkSaid(t *testing.T, s State, epoch int, before, now bool) {
	t.Helper()
	first := api.Point{Epoch: epoch - 1, Root: rootFirst}
	second := api.Point{Epoch: epoch, Root: rootSecond}
	kept := s
	got, want := Next(s, epoch, before, now, first, second), said(s, epoch, before, now, first, second)
	if got != want {
		t.Errorf("Next(%v, %d, %v, %v): %v, want %v", s, epoch, before, now, got, want)
	}
	if s != kept {
		t.Errorf("Next(%v, %d, %v, %v) changed the state to %v", kept, epoch, before, now, s)
	}
}

// W2, W6.

func TestNothingHandedInIsChanged(t *testing.T) {
	s := state(of("yyyn"), 7, 9, 6)
	kept := s
	got := next(s, 10, true, true)
	if s != kept {
		t.Errorf("Next changed the state to %v, it was %v", s, kept)
	}
	if again := next(s, 10, true, true); again != got {
		t.Errorf("Next a second time: %v, want %v", again, got)
	}
	got.Bits = [4]bool{}
	if s != kept {
		t.Errorf("a change of the answer changed the state to %v, it was %v", s, kept)
	}
}

// A chain whose every epoch is justified in time: what is final follows one behind what is justified.
func TestEveryEpochInTime(t *testing.T) {
	var s State
	for epoch := 1; epoch <= 8; epoch++ {
		s = next(s, epoch, epoch > 1, true)
		if s.Current.Epoch != epoch || s.Previous.Epoch != epoch-1 {
			t.Errorf("epoch %d: Current %v, Previous %v", epoch, s.Current, s.Previous)
		}
		if want := epoch - 1; s.Final.Epoch != want {
			t.Errorf("epoch %d: Final %v, want one of epoch %d", epoch, s.Final, want)
		}
	}
	if want := of("yyyy"); s.Bits != want {
		t.Errorf("Bits %v, want %v", s.Bits, want)
	}
}
