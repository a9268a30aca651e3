package ledger

import (
	"math"
	"slices"
	"testing"

	"psephos/api"
	"psephos/justify"
)

// roots is a chain that tells another root at each slot.
func roots(slot int) uint64 { return uint64(slot)*3 + 1000 }

// point is the checkpoint of an epoch of four slots on that chain, for epochs from 0 on.
func point(e int) api.Point { return api.Point{Epoch: e, Root: uint64(e)*12 + 1000} }

// yes is who voted, from a letter for each validator, y for yes.
func yes(letters string) []bool {
	voted := make([]bool, len(letters))
	for i := range voted {
		voted[i] = letters[i] == 'y'
	}
	return voted
}

func bits(letters string) [4]bool { return [4]bool(yes(letters)) }

// of is a configuration of balances, with four slots an epoch.
func of(balances ...uint64) api.Config { return api.Config{Balances: balances, Slots: 4} }

// held is what is justified, each of another epoch and another root, none of them a checkpoint of roots.
func held(b string) justify.State {
	return justify.State{
		Bits:     bits(b),
		Previous: api.Point{Epoch: 1, Root: 1},
		Current:  api.Point{Epoch: 2, Root: 2},
		Final:    api.Point{Epoch: 0, Root: 3},
	}
}

func same(a, b State) bool {
	return a.Justify == b.Justify && a.Epoch == b.Epoch && slices.Equal(a.Before, b.Before) && slices.Equal(a.Now, b.Now)
}

func copied(s State) State {
	s.Before, s.Now = append([]bool{}, s.Before...), append([]bool{}, s.Now...)
	return s
}

func check(t *testing.T, name string, got, want State) {
	t.Helper()
	if !same(got, want) {
		t.Errorf("%s: %v, want %v", name, got, want)
	}
}

// P10.1, the chapter's example.

func TestExample(t *testing.T) {
	c := of(1, 1, 1)
	s := Advance(c, Open(c, 1000), 8, roots)
	for _, who := range []int{1, 2} {
		n, ok := Count(c, s, api.Vote{Slot: 8, Source: point(0), Target: point(2), Who: []int{who}}, roots)
		if !ok {
			t.Fatalf("the vote of %d does not count", who)
		}
		s = n
	}
	want := justify.State{Bits: bits("ynnn"), Previous: point(0), Current: point(2), Final: point(0)}
	if got := Pull(c, s, roots); got != want {
		t.Errorf("Pull: %v, want %v", got, want)
	}
}

// P10.1, Open.

func TestOpen(t *testing.T) {
	for _, n := range []int{0, 1, 2, 3, 100, api.MaxValidators} {
		for _, root := range []uint64{0, 1, 7, math.MaxUint64} {
			c := api.Config{Balances: make([]uint64, n), Slots: 4}
			s := Open(c, root)
			first := api.Point{Epoch: 0, Root: root}
			if want := (justify.State{Previous: first, Current: first, Final: first}); s.Justify != want {
				t.Errorf("Open of %d, root %d: Justify %v, want %v", n, root, s.Justify, want)
			}
			if s.Epoch != 0 {
				t.Errorf("Open of %d: Epoch %d, want 0", n, s.Epoch)
			}
			if len(s.Before) != n || len(s.Now) != n {
				t.Errorf("Open of %d: %d in Before, %d in Now", n, len(s.Before), len(s.Now))
			}
			if slices.Contains(s.Before, true) || slices.Contains(s.Now, true) {
				t.Errorf("Open of %d: somebody voted", n)
			}
		}
	}
	check(t, "Open of nothing", Open(api.Config{}, 0), State{})
}

func TestOpenSharesNothing(t *testing.T) {
	c := of(1, 1)
	a, b := Open(c, 5), Open(c, 5)
	a.Before[0], a.Now[1] = true, true
	if !slices.Equal(a.Before, yes("yn")) || !slices.Equal(a.Now, yes("ny")) {
		t.Errorf("Before and Now share: %v, %v", a.Before, a.Now)
	}
	if slices.Contains(b.Before, true) || slices.Contains(b.Now, true) {
		t.Errorf("two states share: %v", b)
	}
}

// P10.1, Pull: nothing new below epoch 2.

func TestPullBelowTwo(t *testing.T) {
	c := of(1, 1, 1)
	for _, e := range []int{1, 0, -1, -2, -100, math.MinInt + 1, math.MinInt} {
		for _, b := range []string{"nnnn", "ynnn", "yyyy"} {
			for _, voted := range []string{"nnn", "ynn", "yyy"} {
				s := State{held(b), e, yes(voted), yes(voted)}
				if got := Pull(c, s, roots); got != s.Justify {
					t.Errorf("Pull at %d, bits %s, voted %s: %v, want %v", e, b, voted, got, s.Justify)
				}
			}
		}
	}
}

// P10.1, Pull: Next at 2 and above, with the checkpoints of the epoch ahead, and of the epoch.

func TestPullFromTwoOn(t *testing.T) {
	c := of(1, 1, 1)
	for _, e := range []int{2, 3, 4, 5, 100, 1 << 40} {
		for _, x := range []struct {
			before, now, bits string
			current           api.Point
		}{
			{"nnn", "nnn", "nynn", api.Point{Epoch: 2, Root: 2}},
			{"yyn", "nnn", "nynn", point(e - 1)},
			{"nnn", "nyy", "yynn", point(e)},
			{"yny", "yyn", "yynn", point(e)},
			{"ynn", "nny", "nynn", api.Point{Epoch: 2, Root: 2}},
			{"yyy", "nny", "nynn", point(e - 1)},
			{"ynn", "yyy", "yynn", point(e)},
		} {
			s := State{held("ynnn"), e, yes(x.before), yes(x.now)}
			want := justify.State{Bits: bits(x.bits), Previous: s.Justify.Current, Current: x.current, Final: s.Justify.Final}
			if e == 3 && x.bits == "yynn" {
				want.Final = s.Justify.Current
			}
			if got := Pull(c, s, roots); got != want {
				t.Errorf("Pull at %d, before %s, now %s: %v, want %v", e, x.before, x.now, got, want)
			}
		}
	}
}

// The epoch that Pull tells Next is the state's: each way to what is final, and next to it.
func TestPullMakesFinal(t *testing.T) {
	c := of(1, 1, 1)
	tests := []struct {
		bits, before, now string
		epoch             int
		want              uint64
	}{
		{"ynnn", "nnn", "yyy", 3, 2},
		{"nnnn", "yyy", "yyy", 3, 2},
		{"ynnn", "nnn", "yyy", 2, 3},
		{"ynnn", "nnn", "yyy", 4, 3},
		{"yynn", "nnn", "yyy", 4, 2},
		{"yynn", "nnn", "yyy", 5, 3},
		{"nynn", "yyy", "nnn", 3, 1},
		{"nynn", "yyy", "nnn", 2, 3},
		{"nynn", "yyy", "nnn", 4, 3},
		{"yynn", "nnn", "nnn", 3, 1},
		{"nyyn", "yyy", "nnn", 4, 1},
		{"yyyn", "nnn", "nnn", 4, 1},
		{"nyyn", "yyy", "nnn", 5, 3},
		{"yyyy", "ynn", "nny", 9, 3},
	}
	for _, x := range tests {
		s := State{held(x.bits), x.epoch, yes(x.before), yes(x.now)}
		if got := Pull(c, s, roots).Final.Root; got != x.want {
			t.Errorf("bits %s, before %s, now %s, at %d: Final %d, want %d", x.bits, x.before, x.now, x.epoch, got, x.want)
		}
	}
}

// P10.1, Pull: balances that are just enough, one too few, and none at all.

func TestPullBalances(t *testing.T) {
	const most = api.MaxBalance
	tests := []struct {
		name     string
		balances []uint64
		voted    string
		want     bool
	}{
		{"one, it voted", []uint64{1}, "y", true},
		{"one, it did not", []uint64{1}, "n", false},
		{"one that has nothing", []uint64{0}, "y", false},
		{"two of three", []uint64{1, 1, 1}, "yny", true},
		{"one of three", []uint64{1, 1, 1}, "nyn", false},
		{"all of three", []uint64{1, 1, 1}, "yyy", true},
		{"nobody of three", []uint64{1, 1, 1}, "nnn", false},
		{"half", []uint64{1, 1}, "yn", false},
		{"just enough of 60", []uint64{10, 20, 30}, "yny", true},
		{"half of 60", []uint64{10, 20, 30}, "yyn", false},
		{"39 of 60", []uint64{39, 1, 20}, "ynn", false},
		{"40 of 60", []uint64{39, 1, 20}, "yyn", true},
		{"66 of 100", []uint64{66, 34}, "yn", false},
		{"67 of 100", []uint64{67, 33}, "yn", true},
		{"67 of 101", []uint64{67, 34}, "yn", false},
		{"68 of 101", []uint64{68, 33}, "yn", true},
		{"the last ones", []uint64{1, 1, 1, 1, 1, 1}, "nnyyyy", true},
		{"the last ones, one too few", []uint64{1, 1, 1, 1, 1, 1}, "nnnyyy", false},
		{"those alone that have nothing", []uint64{0, 0, 1}, "yyn", false},
		{"without those that have nothing", []uint64{0, 0, 1}, "nny", true},
		{"nobody has anything", []uint64{0, 0, 0}, "yyy", false},
		{"as much as may be", []uint64{most, most, most}, "yyn", true},
		{"as much as may be, without the one that has one less", []uint64{most - 1, most, most}, "nyy", true},
		{"as much as may be, with the one that has one less", []uint64{most, most, most - 1}, "nyy", false},
		{"two thirds less one", []uint64{most - 1, most, most, 1}, "yynn", false},
	}
	for _, x := range tests {
		nobody := make([]bool, len(x.balances))
		all := make([]bool, len(x.balances))
		for i := range all {
			all[i] = true
		}
		c := of(x.balances...)
		allEnough := !slices.Equal(x.balances, nobodyHas(len(x.balances)))
		for _, y := range []struct {
			before, now         []bool
			wantBefore, wantNow bool
		}{
			{yes(x.voted), nobody, x.want, false},
			{nobody, yes(x.voted), false, x.want},
			{yes(x.voted), yes(x.voted), x.want, x.want},
			{yes(x.voted), all, x.want, allEnough},
			{all, yes(x.voted), allEnough, x.want},
		} {
			s := State{held("nnnn"), 9, y.before, y.now}
			current := s.Justify.Current
			if y.wantBefore {
				current = point(8)
			}
			if y.wantNow {
				current = point(9)
			}
			want := justify.State{
				Bits:     [4]bool{y.wantNow, y.wantBefore},
				Previous: s.Justify.Current,
				Current:  current,
				Final:    s.Justify.Final,
			}
			if got := Pull(c, s, roots); got != want {
				t.Errorf("%s, before %v, now %v: %v, want %v", x.name, y.before, y.now, got, want)
			}
		}
	}
}

func nobodyHas(n int) []uint64 { return make([]uint64, n) }

// All validators that there may be, with all that each may have.
func TestPullOfMany(t *testing.T) {
	c := api.Config{Balances: slices.Repeat([]uint64{api.MaxBalance}, api.MaxValidators), Slots: 4}
	// Two thirds of 4096 are 2730 and two thirds.
	for _, x := range []struct {
		voters int
		want   api.Point
	}{{0, point(0)}, {1, point(0)}, {2730, point(0)}, {2731, point(2)}, {4096, point(2)}} {
		s := Open(c, 1000)
		s.Epoch = 2
		for i := range x.voters {
			s.Now[len(s.Now)-1-i] = true
		}
		if got := Pull(c, s, roots).Current; got != x.want {
			t.Errorf("%d of 4096 voted: Current %v, want %v", x.voters, got, x.want)
		}
	}
}

// The chapter's opening: the checkpoint of an epoch is the chain's root at its first slot.

func TestPullCheckpoints(t *testing.T) {
	for _, slots := range []int{1, 2, 4, 7, 64} {
		for _, e := range []int{2, 3, 10, 1000} {
			c := api.Config{Balances: []uint64{1}, Slots: slots}
			first := api.Point{Epoch: e - 1, Root: uint64((e-1)*slots*3 + 1000)}
			second := api.Point{Epoch: e, Root: uint64(e*slots*3 + 1000)}
			if got := Pull(c, State{held("nnnn"), e, yes("y"), yes("n")}, roots).Current; got != first {
				t.Errorf("%d slots, epoch %d: Current %v, want %v", slots, e, got, first)
			}
			if got := Pull(c, State{held("nnnn"), e, yes("n"), yes("y")}, roots).Current; got != second {
				t.Errorf("%d slots, epoch %d: Current %v, want %v", slots, e, got, second)
			}
		}
	}
}

// The root is what the chain tells, whatever that is: one block may stand at many slots.
func TestPullOfAChainWithoutBlocks(t *testing.T) {
	c := of(1)
	still := func(int) uint64 { return 77 }
	for _, x := range []struct {
		before, now string
		want        api.Point
	}{{"y", "n", api.Point{Epoch: 4, Root: 77}}, {"n", "y", api.Point{Epoch: 5, Root: 77}}} {
		if got := Pull(c, State{held("nnnn"), 5, yes(x.before), yes(x.now)}, still).Current; got != x.want {
			t.Errorf("before %s, now %s: Current %v, want %v", x.before, x.now, got, x.want)
		}
	}
}

// W5: an epoch's first slot goes round.
func TestPullGoesRound(t *testing.T) {
	c := of(1)
	for _, x := range []struct{ epoch, before, now int }{
		{1 << 62, -4, 0},
		{1<<62 + 1, 0, 4},
		{1 << 61, 1<<63 - 4, math.MinInt},
		{math.MaxInt, -8, -4},
	} {
		got := Pull(c, State{held("nnnn"), x.epoch, yes("y"), yes("n")}, roots).Current
		if want := (api.Point{Epoch: x.epoch - 1, Root: roots(x.before)}); got != want {
			t.Errorf("epoch %d, before: %v, want %v", x.epoch, got, want)
		}
		got = Pull(c, State{held("nnnn"), x.epoch, yes("n"), yes("y")}, roots).Current
		if want := (api.Point{Epoch: x.epoch, Root: roots(x.now)}); got != want {
			t.Errorf("epoch %d, now: %v, want %v", x.epoch, got, want)
		}
	}
}

// P10.2, Advance to a slot of the same epoch, or of one ahead of it: all stays.

func TestAdvanceNotBehind(t *testing.T) {
	c := of(1, 1, 1)
	for _, b := range []string{"nnnn", "yyyy"} {
		s := State{held(b), 5, yes("yyn"), yes("nyy")}
		for _, slot := range []int{20, 21, 22, 23, 19, 16, 15, 12, 8, 4, 3, 1, 0, -1, -20, math.MinInt} {
			check(t, "to slot of epoch 5 or ahead", Advance(c, s, slot, roots), s)
		}
	}
	for _, slot := range []int{0, 1, 2, 3, -1, -4, math.MinInt} {
		check(t, "to a slot of epoch 0", Advance(c, Open(c, 9), slot, roots), Open(c, 9))
	}
}

// P10.2, Advance to the next epoch: Justify is Pull, those in Now are in Before, nobody is in Now.

func TestAdvanceByOne(t *testing.T) {
	c := of(1, 1, 1)
	for _, slot := range []int{24, 25, 26, 27} {
		for _, x := range []struct {
			before, now, bits string
			current           api.Point
		}{
			{"nnn", "nnn", "nyny", api.Point{Epoch: 2, Root: 2}},
			{"yyn", "ynn", "nyny", point(4)},
			{"ynn", "nyy", "yyny", point(5)},
			{"nyy", "yny", "yyny", point(5)},
			{"ynn", "nny", "nyny", api.Point{Epoch: 2, Root: 2}},
		} {
			s := State{held("ynyn"), 5, yes(x.before), yes(x.now)}
			want := State{
				Justify: justify.State{Bits: bits(x.bits), Previous: s.Justify.Current, Current: x.current, Final: s.Justify.Final},
				Epoch:   6,
				Before:  yes(x.now),
				Now:     yes("nnn"),
			}
			check(t, "before "+x.before+", now "+x.now, Advance(c, s, slot, roots), want)
		}
	}
}

// The first two epochs justify nothing at their end, whoever voted; who voted is handed on in them, too.
func TestAdvanceAtTheBeginning(t *testing.T) {
	c := of(1, 1, 1)
	s := Open(c, 1000)
	s.Now = yes("yyy")
	want := State{Justify: s.Justify, Epoch: 1, Before: yes("yyy"), Now: yes("nnn")}
	check(t, "from 0 to 1", Advance(c, s, 4, roots), want)
	want.Epoch, want.Before = 2, yes("nnn")
	check(t, "from 0 to 2", Advance(c, s, 8, roots), want)

	s.Epoch, s.Before = 1, yes("yyy")
	want = State{Justify: s.Justify, Epoch: 2, Before: yes("yyy"), Now: yes("nnn")}
	check(t, "from 1 to 2", Advance(c, s, 11, roots), want)

	// Those who voted in epoch 1 count at the end of 2, as those of the epoch ahead.
	want = State{
		Justify: justify.State{Bits: bits("nynn"), Previous: point(0), Current: point(1), Final: point(0)},
		Epoch:   3,
		Before:  yes("nnn"),
		Now:     yes("nnn"),
	}
	check(t, "from 1 to 3", Advance(c, s, 12, roots), want)
}

// P10.2, Advance by several epochs: what was in Now counts twice, at the end of its epoch and of the next one.

func TestAdvanceByTwo(t *testing.T) {
	c := of(1, 1, 1)
	s := State{held("nnnn"), 5, yes("nnn"), yes("yyn")}
	want := State{
		// Epoch 5 is Current at its own end; at the end of 6 it is that once more, and Previous.
		Justify: justify.State{Bits: bits("nynn"), Previous: point(5), Current: point(5), Final: s.Justify.Final},
		Epoch:   7,
		Before:  yes("nnn"),
		Now:     yes("nnn"),
	}
	check(t, "by two", Advance(c, s, 28, roots), want)
}

func TestAdvanceFar(t *testing.T) {
	c := of(1, 1, 1)
	for _, x := range []struct {
		slot, epoch int
		bits        string
		previous    api.Point
	}{
		{24, 6, "yynn", api.Point{Epoch: 2, Root: 2}},
		{28, 7, "nyyn", point(5)},
		{32, 8, "nnyy", point(5)},
		{36, 9, "nnny", point(5)},
		{40, 10, "nnnn", point(5)},
		{44, 11, "nnnn", point(5)},
		{403, 100, "nnnn", point(5)},
		{4095, 1023, "nnnn", point(5)},
	} {
		s := State{held("nnnn"), 5, yes("yyy"), yes("yyy")}
		now := "nnn"
		if x.epoch == 6 {
			now = "yyy"
		}
		want := State{
			Justify: justify.State{Bits: bits(x.bits), Previous: x.previous, Current: point(5), Final: s.Justify.Final},
			Epoch:   x.epoch,
			Before:  yes(now),
			Now:     yes("nnn"),
		}
		check(t, "far", Advance(c, s, x.slot, roots), want)
	}
}

// P10.2: of more than 4096 epochs that end the first 4096 are counted alone.

func TestAdvanceCountsSoManyAlone(t *testing.T) {
	for _, slots := range []int{1, 4, 64} {
		c := api.Config{Balances: []uint64{1, 1}, Slots: slots}
		for _, from := range []int{0, 1, 2, 7, 5000} {
			for _, x := range []struct{ by, want int }{
				{4095, 4095}, {4096, 4096}, {4097, 4096}, {4098, 4096}, {8192, 4096}, {100000, 4096},
			} {
				s := State{held("nnnn"), from, yes("nn"), yes("yn")}
				got := Advance(c, s, (from+x.by)*slots, roots)
				if got.Epoch != from+x.want {
					t.Errorf("%d slots, from %d by %d: Epoch %d, want %d", slots, from, x.by, got.Epoch, from+x.want)
				}
				if slices.Contains(got.Before, true) || slices.Contains(got.Now, true) || len(got.Before) != 2 || len(got.Now) != 2 {
					t.Errorf("%d slots, from %d by %d: Before %v, Now %v", slots, from, x.by, got.Before, got.Now)
				}
			}
			got := Advance(c, State{held("nnnn"), from, yes("nn"), yes("yn")}, math.MaxInt, roots)
			if got.Epoch != from+4096 {
				t.Errorf("%d slots, from %d to the last slot: Epoch %d, want %d", slots, from, got.Epoch, from+4096)
			}
		}
	}
	c := of(1)
	s := Advance(c, Open(c, 1), 5000*4, roots)
	check(t, "the rest by a second call", Advance(c, s, 5000*4, roots), State{Open(c, 1).Justify, 5000, yes("n"), yes("n")})
}

// What is justified is not of a later epoch than the state's own one, though the slot is far behind it.
func TestAdvanceKeepsWhatIsJustified(t *testing.T) {
	c := of(1)
	got := Advance(c, State{held("nnnn"), 3, yes("n"), yes("y")}, 1<<40, roots)
	want := State{
		Justify: justify.State{Previous: point(3), Current: point(3), Final: held("nnnn").Final},
		Epoch:   4099,
		Before:  yes("n"),
		Now:     yes("n"),
	}
	check(t, "far away", got, want)
}

// In one go, or slot by slot: the same.
func TestAdvanceInSteps(t *testing.T) {
	c := of(1, 1, 1)
	s := State{held("yyny"), 2, yes("nyy"), yes("yyn")}
	steps := s
	for slot := 8; slot <= 60; slot++ {
		steps = Advance(c, steps, slot, roots)
		check(t, "in steps", steps, Advance(c, s, slot, roots))
		if steps.Epoch != slot/4 {
			t.Errorf("slot %d: Epoch %d, want %d", slot, steps.Epoch, slot/4)
		}
	}
}

// Epochs that justify, and make final, on the way: enough vote in each epoch for its checkpoint.
func TestAdvanceMakesFinal(t *testing.T) {
	c := of(10, 10, 10)
	s := Open(c, 1000)
	tests := []struct {
		epoch                    int
		source                   int
		bits                     string
		previous, current, final int
	}{
		{1, 0, "nnnn", 0, 0, 0},
		{2, 0, "yynn", 0, 2, 0},
		{3, 2, "yyyn", 2, 3, 2},
		{4, 3, "yyyy", 3, 4, 3},
		{5, 4, "yyyy", 4, 5, 4},
	}
	for _, x := range tests {
		s = Advance(c, s, x.epoch*4, roots)
		n, ok := Count(c, s, api.Vote{Slot: x.epoch * 4, Source: point(x.source), Target: point(x.epoch), Who: []int{0, 2}}, roots)
		if !ok {
			t.Fatalf("the vote of epoch %d does not count", x.epoch)
		}
		s = n
		want := State{
			Justify: justify.State{Bits: bits(x.bits), Previous: point(x.previous), Current: point(x.current), Final: point(x.final)},
			Epoch:   x.epoch + 1,
			Before:  yes("yny"),
			Now:     yes("nnn"),
		}
		check(t, "at the end of an epoch", Advance(c, s, x.epoch*4+4, roots), want)
	}
}

// By several epochs in one call: epoch 3 is justified at its end, and makes 2 final; at the end of 4 it is justified once more.
func TestAdvanceMakesFinalInOneCall(t *testing.T) {
	c := of(10, 10, 10)
	s := State{
		Justify: justify.State{Bits: bits("ynnn"), Previous: point(0), Current: point(2), Final: point(0)},
		Epoch:   3,
		Before:  yes("yny"),
		Now:     yes("nyy"),
	}
	want := State{
		Justify: justify.State{Bits: bits("nyyn"), Previous: point(3), Current: point(3), Final: point(2)},
		Epoch:   5,
		Before:  yes("nnn"),
		Now:     yes("nnn"),
	}
	check(t, "from 3 to 5", Advance(c, s, 20, roots), want)
}

// An epoch below 0 has its first slot, too: what is ahead of slot 0 counts as 0 (2), so that epochs from 0 on end.
func TestAdvanceFromBelowZero(t *testing.T) {
	c := of(1, 1)
	for _, e := range []int{-1, -2, -1000} {
		s := State{held("ynnn"), e, yes("yy"), yes("yn")}
		check(t, "to epoch 0", Advance(c, s, 3, roots), s)
		check(t, "to epoch 1", Advance(c, s, 4, roots), State{s.Justify, 1, yes("yn"), yes("nn")})
		check(t, "to epoch 2", Advance(c, s, 8, roots), State{s.Justify, 2, yes("nn"), yes("nn")})
	}
}

// W5: Epoch times Slots goes round; what ends is counted from there on, and Epoch is one more than that.
func TestAdvanceGoesRound(t *testing.T) {
	c := of(1, 1, 1)
	s := State{held("nnnn"), 1<<62 + 1, yes("nnn"), yes("yyy")}
	check(t, "to the slot that it goes round to", Advance(c, s, 7, roots), s)
	want := State{
		Justify: justify.State{
			Bits: bits("ynnn"), Previous: s.Justify.Current, Current: api.Point{Epoch: 1<<62 + 1, Root: roots(4)}, Final: s.Justify.Final,
		},
		Epoch:  2,
		Before: yes("yyy"),
		Now:    yes("nnn"),
	}
	check(t, "to the next one", Advance(c, s, 8, roots), want)

	c.Slots = 2
	s.Epoch = math.MinInt + 3
	check(t, "from below 0, the slot that it goes round to", Advance(c, s, 7, roots), s)
	check(t, "from below 0, the next one", Advance(c, s, 8, roots), State{s.Justify, 4, yes("yyy"), yes("nnn")})
}
