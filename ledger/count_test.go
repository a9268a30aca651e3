package ledger

import (
	"math"
	"slices"
	"testing"

	"psephos/api"
	"psephos/justify"
)

// waiting is a state at epoch 5 of which 1 voted for epoch 4, and 2 for epoch 5.
func waiting() State {
	return State{held("nnnn"), 5, yes("nynn"), yes("nnyn")}
}

// voteNow is a vote that counts for waiting's epoch 5.
func voteNow(who ...int) api.Vote {
	return api.Vote{Slot: 21, Head: 9, Source: held("nnnn").Current, Target: point(5), Who: who}
}

// voteBefore is a vote that counts for waiting's epoch 4.
func voteBefore(who ...int) api.Vote {
	return api.Vote{Slot: 18, Head: 9, Source: held("nnnn").Previous, Target: point(4), Who: who}
}

func four() api.Config { return of(10, 10, 10, 10) }

// checkCounts sees that a vote counts, and what the state is behind it.
func checkCounts(t *testing.T, name string, c api.Config, s State, v api.Vote, want State) {
	t.Helper()
	got, ok := Count(c, s, v, roots)
	if !ok {
		t.Errorf("%s: does not count", name)
	}
	check(t, name, got, want)
}

// checkFails sees that a vote does not count, and that the state is the one that was.
func checkFails(t *testing.T, name string, c api.Config, s State, v api.Vote) {
	t.Helper()
	was := copied(s)
	got, ok := Count(c, s, v, roots)
	if ok {
		t.Errorf("%s: counts", name)
	}
	check(t, name, got, was)
	check(t, name+", the state itself", s, was)
}

// P10.3, votes that count.

func TestCountNow(t *testing.T) {
	for _, x := range []struct {
		who  []int
		want string
	}{
		{[]int{0}, "ynyn"},
		{[]int{1}, "nyyn"},
		{[]int{2}, "nnyn"},
		{[]int{3}, "nnyy"},
		{[]int{0, 3}, "ynyy"},
		{[]int{2, 3}, "nnyy"},
		{[]int{0, 1, 2, 3}, "yyyy"},
	} {
		want := waiting()
		want.Now = yes(x.want)
		checkCounts(t, "a vote for Epoch", four(), waiting(), voteNow(x.who...), want)
	}
}

func TestCountBefore(t *testing.T) {
	for _, x := range []struct {
		who  []int
		want string
	}{
		{[]int{0}, "yynn"},
		{[]int{1}, "nynn"},
		{[]int{2}, "nyyn"},
		{[]int{3}, "nyny"},
		{[]int{0, 3}, "yyny"},
		{[]int{0, 1}, "yynn"},
		{[]int{0, 1, 2, 3}, "yyyy"},
	} {
		want := waiting()
		want.Before = yes(x.want)
		checkCounts(t, "a vote for Epoch - 1", four(), waiting(), voteBefore(x.who...), want)
	}
}

// Each slot of the target's epoch will do, and any head.
func TestCountAnySlotAndHead(t *testing.T) {
	now, before := waiting(), waiting()
	now.Now, before.Before = yes("ynyn"), yes("yynn")
	for i := range 4 {
		for _, head := range []uint64{0, 1, math.MaxUint64} {
			v := voteNow(0)
			v.Slot, v.Head = 20+i, head
			checkCounts(t, "a slot of epoch 5", four(), waiting(), v, now)
			v = voteBefore(0)
			v.Slot, v.Head = 16+i, head
			checkCounts(t, "a slot of epoch 4", four(), waiting(), v, before)
		}
	}
}

// In epoch 0, where there is no epoch ahead, and in epoch 1.
func TestCountAtTheBeginning(t *testing.T) {
	c := of(1, 1, 1)
	s := Open(c, 1000)
	first := s
	first.Now = yes("nyn")
	checkCounts(t, "epoch 0", c, s, api.Vote{Slot: 3, Source: point(0), Target: point(0), Who: []int{1}}, first)
	checkFails(t, "epoch 0, for 1", c, s, api.Vote{Slot: 4, Source: point(0), Target: point(1), Who: []int{1}})

	s = Advance(c, first, 4, roots)
	second := State{s.Justify, 1, yes("nyn"), yes("ynn")}
	checkCounts(t, "epoch 1", c, s, api.Vote{Slot: 7, Source: point(0), Target: point(1), Who: []int{0}}, second)
	third := State{s.Justify, 1, yes("yyn"), yes("nnn")}
	checkCounts(t, "epoch 1, for 0", c, s, api.Vote{Slot: 0, Source: point(0), Target: point(0), Who: []int{0}}, third)
	checkFails(t, "the checkpoint of 0 is the chain's, not Open's root", c, Open(c, 7), api.Vote{Source: api.Point{Root: 7}, Target: api.Point{Root: 7}, Who: []int{0}})
}

// P10.3: a vote that is not Right does not count, each for one cause alone.

func TestCountOfVotesThatAreNotRight(t *testing.T) {
	for _, x := range []struct {
		name string
		who  []int
	}{
		{"nobody", nil},
		{"nobody, empty", []int{}},
		{"twice", []int{0, 0}},
		{"falling", []int{3, 0}},
		{"falling at the end", []int{0, 3, 1}},
		{"below 0", []int{-1, 0}},
		{"far below 0", []int{math.MinInt}},
		{"one too many", []int{0, 4}},
		{"far too many", []int{math.MaxInt}},
	} {
		checkFails(t, x.name+", now", four(), waiting(), voteNow(x.who...))
		checkFails(t, x.name+", before", four(), waiting(), voteBefore(x.who...))
	}

	for _, slot := range []int{19, 24, 16, 0, -1, math.MaxInt} {
		v := voteNow(0)
		v.Slot = slot
		checkFails(t, "the target is not of its slot's epoch, now", four(), waiting(), v)
	}
	for _, slot := range []int{15, 20, 21, 0, -1, math.MinInt} {
		v := voteBefore(0)
		v.Slot = slot
		checkFails(t, "the target is not of its slot's epoch, before", four(), waiting(), v)
	}
}

// As the sources are told by the state, so may they be ones that no vote may have.
func TestCountOfSourcesThatAreNotRight(t *testing.T) {
	now, before := yes("ynyn"), yes("yynn")
	for _, x := range []struct {
		name  string
		epoch int
		right bool
	}{
		{"below 0", -1, false},
		{"far below 0", math.MinInt, false},
		{"0", 0, true},
		{"4", 4, true},
	} {
		s := waiting()
		s.Justify.Current.Epoch, s.Justify.Previous.Epoch = x.epoch, x.epoch
		v, w := voteNow(0), voteBefore(0)
		v.Source, w.Source = s.Justify.Current, s.Justify.Previous
		if x.right {
			checkCounts(t, x.name, four(), s, v, State{s.Justify, 5, s.Before, now})
			checkCounts(t, x.name, four(), s, w, State{s.Justify, 5, before, s.Now})
		} else {
			checkFails(t, x.name+", now", four(), s, v)
			checkFails(t, x.name+", before", four(), s, w)
		}
	}

	// A source of the target's own epoch may be; of a later one it may not.
	s := waiting()
	s.Justify.Current.Epoch, s.Justify.Previous.Epoch = 5, 5
	v, w := voteNow(0), voteBefore(0)
	v.Source, w.Source = s.Justify.Current, s.Justify.Previous
	checkCounts(t, "the target's epoch", four(), s, v, State{s.Justify, 5, s.Before, now})
	checkFails(t, "above the target's epoch, before", four(), s, w)
	s.Justify.Current.Epoch = 6
	v.Source = s.Justify.Current
	checkFails(t, "above the target's epoch, now", four(), s, v)

	// A slot below 0 has epoch 0 (2), but is not right.
	c := four()
	s = Open(c, 1000)
	v = api.Vote{Slot: 0, Source: point(0), Target: point(0), Who: []int{0}}
	checkCounts(t, "slot 0", c, s, v, State{s.Justify, 0, s.Before, yes("ynnn")})
	v.Slot = -1
	checkFails(t, "slot -1", c, s, v)
	v.Slot = math.MinInt
	checkFails(t, "the least slot", c, s, v)
}

// P10.3: the target is the checkpoint of its epoch: its root is the chain's at the epoch's first slot.

func TestCountOfOtherTargets(t *testing.T) {
	for _, root := range []uint64{0, 9, roots(19), roots(21), roots(22), roots(16), roots(24), math.MaxUint64} {
		v := voteNow(0)
		v.Target.Root = root
		checkFails(t, "another root, now", four(), waiting(), v)
	}
	for _, root := range []uint64{0, 9, roots(15), roots(17), roots(18), roots(20), roots(12), math.MaxUint64} {
		v := voteBefore(0)
		v.Target.Root = root
		checkFails(t, "another root, before", four(), waiting(), v)
	}
}

// P10.3: the target's epoch is Epoch, or Epoch - 1. With a source that is Current and Previous alike nothing else is wrong.

func TestCountOfOtherEpochs(t *testing.T) {
	s := waiting()
	s.Justify.Previous = s.Justify.Current
	for e := 2; e <= 9; e++ {
		v := api.Vote{Slot: e * 4, Source: s.Justify.Current, Target: point(e), Who: []int{0}}
		switch e {
		case 4:
			checkCounts(t, "of Epoch - 1", four(), s, v, State{s.Justify, 5, yes("yynn"), s.Now})
		case 5:
			checkCounts(t, "of Epoch", four(), s, v, State{s.Justify, 5, s.Before, yes("ynyn")})
		default:
			checkFails(t, "of another epoch", four(), s, v)
		}
	}
	v := api.Vote{Slot: 1 << 40, Source: s.Justify.Current, Target: point(1 << 38), Who: []int{0}}
	checkFails(t, "of one far behind", four(), s, v)
}

// P10.3: the source is Current for Epoch, and Previous for Epoch - 1, not the other one.

func TestCountOfOtherSources(t *testing.T) {
	j := held("nnnn")
	for _, x := range []struct {
		name        string
		source      api.Point
		now, before bool
	}{
		{"Current", j.Current, true, false},
		{"Previous", j.Previous, false, true},
		{"Final", j.Final, false, false},
		{"nothing", api.Point{}, false, false},
		{"Current's epoch, another root", api.Point{Epoch: j.Current.Epoch, Root: 9}, false, false},
		{"Current's root, another epoch", api.Point{Epoch: 3, Root: j.Current.Root}, false, false},
		{"Previous's epoch, another root", api.Point{Epoch: j.Previous.Epoch, Root: 9}, false, false},
		{"Previous's root, another epoch", api.Point{Epoch: 3, Root: j.Previous.Root}, false, false},
		{"the target of Epoch - 1", point(4), false, false},
	} {
		v, w := voteNow(0), voteBefore(0)
		v.Source, w.Source = x.source, x.source
		if x.now {
			checkCounts(t, x.name+", now", four(), waiting(), v, State{j, 5, yes("nynn"), yes("ynyn")})
		} else {
			checkFails(t, x.name+", now", four(), waiting(), v)
		}
		if x.before {
			checkCounts(t, x.name+", before", four(), waiting(), w, State{j, 5, yes("yynn"), yes("nnyn")})
		} else {
			checkFails(t, x.name+", before", four(), waiting(), w)
		}
	}
}

// P10.3: counted twice is counted once, and it counts the second time, too.

func TestCountTwice(t *testing.T) {
	for _, v := range []api.Vote{voteNow(0, 3), voteBefore(0, 3)} {
		once, ok := Count(four(), waiting(), v, roots)
		if !ok || same(once, waiting()) {
			t.Fatalf("%v does not count", v)
		}
		checkCounts(t, "a second time", four(), once, v, once)
	}
}

// Validators that voted already may vote again, alone or beside others; for one epoch, and for the other one.
func TestCountOfThoseThatVoted(t *testing.T) {
	j := held("nnnn")
	checkCounts(t, "now, alone", four(), waiting(), voteNow(2), waiting())
	checkCounts(t, "before, alone", four(), waiting(), voteBefore(1), waiting())
	checkCounts(t, "now, beside others", four(), waiting(), voteNow(1, 2, 3), State{j, 5, yes("nynn"), yes("nyyy")})
	checkCounts(t, "before, beside others", four(), waiting(), voteBefore(0, 1), State{j, 5, yes("yynn"), yes("nnyn")})
	s := State{j, 5, yes("yyyy"), yes("yyyy")}
	checkCounts(t, "all of them, now", four(), s, voteNow(0, 1, 2, 3), s)
	checkCounts(t, "all of them, before", four(), s, voteBefore(0, 1, 2, 3), s)
}

// Votes of one and of another block add up, whatever their order.
func TestCountsAddUp(t *testing.T) {
	want := State{held("nnnn"), 5, yes("yyny"), yes("yyyn")}
	votes := []api.Vote{voteNow(0), voteBefore(0, 3), voteNow(1, 2)}
	for _, order := range [][]int{{0, 1, 2}, {0, 2, 1}, {1, 0, 2}, {1, 2, 0}, {2, 0, 1}, {2, 1, 0}} {
		s := waiting()
		for _, i := range order {
			n, ok := Count(four(), s, votes[i], roots)
			if !ok {
				t.Fatalf("%v does not count", votes[i])
			}
			s = n
		}
		check(t, "all three", s, want)
	}
}

// W5: Epoch - 1 goes round.
func TestCountGoesRound(t *testing.T) {
	c := api.Config{Balances: []uint64{1, 1}, Slots: 1}
	s := State{held("nnnn"), math.MinInt, yes("nn"), yes("nn")}
	v := api.Vote{Slot: math.MaxInt, Source: s.Justify.Previous, Target: api.Point{Epoch: math.MaxInt, Root: roots(math.MaxInt)}, Who: []int{1}}
	checkCounts(t, "one below the least", c, s, v, State{s.Justify, math.MinInt, yes("ny"), yes("nn")})
}

// W2, W6: the state that is handed in is as it was, and shares nothing with what is handed back.

// spoil changes all lists of a state.
func spoil(s State) {
	for _, list := range [][]bool{s.Before, s.Now} {
		for i := range list {
			list[i] = !list[i]
		}
	}
}

func TestNothingIsShared(t *testing.T) {
	c := four()
	other := voteNow(0)
	other.Target.Root++
	calls := []struct {
		name string
		call func(s State) State
	}{
		{"Pull", func(s State) State { return State{Justify: Pull(c, s, roots)} }},
		{"Advance by none", func(s State) State { return Advance(c, s, 20, roots) }},
		{"Advance to one ahead", func(s State) State { return Advance(c, s, 2, roots) }},
		{"Advance by one", func(s State) State { return Advance(c, s, 24, roots) }},
		{"Advance by two", func(s State) State { return Advance(c, s, 28, roots) }},
		{"Advance far", func(s State) State { return Advance(c, s, 280000, roots) }},
		{"Count now", func(s State) State { n, _ := Count(c, s, voteNow(0, 2), roots); return n }},
		{"Count before", func(s State) State { n, _ := Count(c, s, voteBefore(1, 3), roots); return n }},
		{"Count of one that isn't right", func(s State) State { n, _ := Count(c, s, voteNow(), roots); return n }},
		{"Count of another target", func(s State) State { n, _ := Count(c, s, other, roots); return n }},
		{"Count of another source", func(s State) State {
			v := voteNow(0)
			v.Source = s.Justify.Previous
			n, _ := Count(c, s, v, roots)
			return n
		}},
	}
	for _, x := range calls {
		s := waiting()
		got := x.call(s)
		check(t, x.name+", the state behind it", s, waiting())
		check(t, x.name+", a second time", x.call(s), got)

		was := copied(got)
		spoil(s)
		check(t, x.name+", when the state changes", got, was)

		s = waiting()
		got = x.call(s)
		spoil(got)
		check(t, x.name+", when the answer changes", s, waiting())

		got = x.call(s)
		now := slices.Clone(got.Now)
		for i := range got.Before {
			got.Before[i] = !got.Before[i]
		}
		if !slices.Equal(got.Now, now) {
			t.Errorf("%s: Before and Now of the answer share", x.name)
		}
	}
}

func TestConfigurationAndVoteStayAndAreNotKept(t *testing.T) {
	c, v := four(), voteNow(0, 3)
	s, ok := Count(c, waiting(), v, roots)
	s = Advance(c, s, 24, roots)
	Pull(c, s, roots)
	Open(c, 5)
	if !ok || !slices.Equal(c.Balances, []uint64{10, 10, 10, 10}) || !slices.Equal(v.Who, []int{0, 3}) {
		t.Errorf("changed: %v, %v, %v", c, v, ok)
	}
	want := copied(s)
	v.Who[0], v.Who[1] = 1, 2
	c.Balances[0] = 1000
	check(t, "when the vote and the configuration change", s, want)
}

// W1: states that are not of the configuration, and configurations that may not be: no call panics, and each ends.

func TestOddStates(t *testing.T) {
	configs := []api.Config{{}, of(), of(1), of(1, 1, 1), {Balances: []uint64{1, 1}, Slots: -4, Boost: -1}, {Balances: []uint64{math.MaxUint64, 2}, Slots: math.MaxInt}, {Balances: []uint64{1}, Slots: math.MinInt}}
	lists := [][]bool{nil, {}, yes("y"), yes("nn"), yes("yyyyyyyy")}
	numbers := []int{0, 1, 2, 3, 5, -1, 4097, 20000, math.MinInt, math.MinInt + 1, math.MaxInt, math.MaxInt - 1, 1 << 62}
	for _, c := range configs {
		for _, before := range lists {
			for _, now := range lists {
				for _, e := range numbers {
					s := State{justify.State{}, e, before, now}
					was := copied(s)
					Pull(c, s, roots)
					for _, slot := range []int{0, 9, -1, math.MinInt, math.MaxInt} {
						Advance(c, s, slot, roots)
					}
					for _, f := range []int{e, e - 1} {
						v := api.Vote{Slot: f * c.Slots, Target: api.Point{Epoch: f, Root: roots(f * c.Slots)}, Who: []int{0}}
						Count(c, s, v, roots)
					}
					check(t, "an odd state", s, was)
				}
			}
		}
	}
}

// Those whom the configuration does not have have no balance; those whom the state does not have did not vote.
func TestListsOfOtherLengths(t *testing.T) {
	c := of(1, 1, 1)
	for _, x := range []struct {
		now  string
		want api.Point
	}{
		{"", held("nnnn").Current},
		{"y", held("nnnn").Current},
		{"yy", point(5)},
		{"nnnyyy", held("nnnn").Current},
		{"nyyn", point(5)},
	} {
		if got := Pull(c, State{held("nnnn"), 5, nil, yes(x.now)}, roots).Current; got != x.want {
			t.Errorf("%q in Now: Current %v, want %v", x.now, got, x.want)
		}
	}
	v := voteNow(1, 2)
	checkCounts(t, "no lists", c, State{held("nnnn"), 5, nil, nil}, v, State{held("nnnn"), 5, nil, yes("nyy")})
	checkCounts(t, "a short list", c, State{held("nnnn"), 5, nil, yes("y")}, v, State{held("nnnn"), 5, nil, yes("yyy")})
	checkCounts(t, "a long list", c, State{held("nnnn"), 5, nil, yes("nnnny")}, v, State{held("nnnn"), 5, nil, yes("nyyny")})
	check(t, "lists of the configuration", Advance(c, State{}, 8, roots), State{justify.State{}, 2, yes("nnn"), yes("nnn")})
}
