package vote

import (
	"math"
	"slices"
	"testing"

	"psephos/api"
)

// of is a configuration of so many validators, and so many slots an epoch.
func of(count, slots int) api.Config {
	return api.Config{Balances: slices.Repeat([]uint64{10}, count), Slots: slots}
}

// voted is a vote that may be where four slots are an epoch, if those who vote may.
func voted(who ...int) api.Vote {
	return api.Vote{
		Slot:   9,
		Head:   7,
		Source: api.Point{Epoch: 1, Root: 5},
		Target: api.Point{Epoch: 2, Root: 6},
		Who:    who,
	}
}

// timed is a vote of validator 0 at a slot, from an epoch to another one.
func timed(slot, source, target int) api.Vote {
	return api.Vote{Slot: slot, Source: api.Point{Epoch: source}, Target: api.Point{Epoch: target}, Who: []int{0}}
}

// to is the numbers from 0 up to, not with, one.
func to(n int) []int {
	ns := make([]int, n)
	for i := range ns {
		ns[i] = i
	}
	return ns
}

// P5.1, Right: those who vote.

func TestRightOfThoseWhoVote(t *testing.T) {
	tests := []struct {
		name  string
		count int
		who   []int
		want  bool
	}{
		{"some", 4, []int{0, 3}, true},
		{"all", 4, []int{0, 1, 2, 3}, true},
		{"the first alone", 4, []int{0}, true},
		{"the last alone", 4, []int{3}, true},
		{"the one that there is", 1, []int{0}, true},
		{"nil", 4, nil, false},
		{"empty", 4, []int{}, false},
		{"one behind the last", 4, []int{4}, false},
		{"one behind the last, behind others", 4, []int{0, 1, 4}, false},
		{"one behind the last, between others", 4, []int{0, 4, 3}, false},
		{"the greatest number", 4, []int{0, math.MaxInt}, false},
		{"one below 0", 4, []int{-1}, false},
		{"one below 0, ahead of others", 4, []int{-1, 0, 1}, false},
		{"one below 0, behind others", 4, []int{0, 1, -1}, false},
		{"the least number", 4, []int{math.MinInt, 2}, false},
		{"falling", 4, []int{3, 0}, false},
		{"falling at the end", 4, []int{0, 2, 1}, false},
		{"falling at the beginning", 4, []int{1, 0, 2}, false},
		{"told twice", 4, []int{2, 2}, false},
		{"0 told twice", 4, []int{0, 0}, false},
		{"told twice at the end", 4, []int{0, 1, 3, 3}, false},
		{"told twice, apart", 4, []int{1, 2, 1}, false},
		{"no validators at all", 0, []int{0}, false},
		{"no validators, and nobody", 0, nil, false},
		{"as many as may be", api.MaxValidators, to(api.MaxValidators), true},
		{"one more than there are", api.MaxValidators, to(api.MaxValidators + 1), false},
		{"more than may be, but there", api.MaxValidators + 1, []int{api.MaxValidators}, true},
	}
	for _, x := range tests {
		if got := Right(of(x.count, 4), voted(x.who...)); got != x.want {
			t.Errorf("%s: Right: %v, want %v", x.name, got, x.want)
		}
	}
}

// P5.1, Right: slot, source and target.

func TestRightOfTimes(t *testing.T) {
	tests := []struct {
		name                        string
		slots, slot, source, target int
		want                        bool
	}{
		{"source one ahead of target", 4, 9, 1, 2, true},
		{"source long ahead of target", 4, 41, 3, 10, true},
		{"source of epoch 0", 4, 9, 0, 2, true},
		{"source at target", 4, 9, 2, 2, true},
		{"source one above target", 4, 9, 3, 2, false},
		{"source far above target", 4, 9, math.MaxInt, 2, false},
		{"source -1", 4, 9, -1, 2, false},
		{"least source", 4, 9, math.MinInt, 2, false},
		{"all 0", 4, 0, 0, 0, true},
		{"slot 0, source above", 4, 0, 1, 0, false},
		{"slot -1", 4, -1, 0, 0, false},
		{"slot -1, epochs of it", 4, -1, -1, -1, false},
		{"least slot", 4, math.MinInt, 0, 0, false},
		{"target -1", 4, 0, 0, -1, false},
		{"source and target -1", 4, 0, -1, -1, false},
		{"source and target least", 4, 0, math.MinInt, math.MinInt, false},
		{"slot begins the epoch", 4, 8, 1, 2, true},
		{"slot ends the epoch", 4, 11, 1, 2, true},
		{"slot ahead of the epoch", 4, 7, 1, 2, false},
		{"slot behind the epoch", 4, 12, 1, 2, false},
		{"target one below", 4, 9, 1, 1, false},
		{"target one above", 4, 9, 1, 3, false},
		{"greatest target", 4, 9, 1, math.MaxInt, false},
		{"target is the slot", 4, 9, 1, 9, false},
		{"one slot an epoch", 1, 9, 1, 9, true},
		{"one slot an epoch, target below", 1, 9, 1, 8, false},
		{"slots no power of two", 3, 8, 1, 2, true},
		{"most slots", 64, 128, 1, 2, true},
		{"above the greatest slot", 4, 1<<40 + 4, 0, 1<<38 + 1, true},
		{"greatest slot", 1, math.MaxInt, math.MaxInt, math.MaxInt, true},
		{"slots 0 count as 1", 0, 9, 1, 9, true},
		{"slots 0, another target", 0, 9, 1, 2, false},
		{"slots below 0 count as 1", -4, 9, 1, 9, true},
		{"least slots count as 1", math.MinInt, 9, 1, 9, true},
		{"greatest slots", math.MaxInt, 9, 0, 0, true},
	}
	for _, x := range tests {
		if got := Right(of(1, x.slots), timed(x.slot, x.source, x.target)); got != x.want {
			t.Errorf("%s: Right: %v, want %v", x.name, got, x.want)
		}
	}
}

// What a vote names is no business of Right, nor are balances and a boost.
func TestRightOfWhateverRootsAndBalances(t *testing.T) {
	for _, root := range []uint64{0, 1, math.MaxUint64} {
		v := voted(0, 1)
		v.Head, v.Source.Root, v.Target.Root = root, root, root
		c := api.Config{Balances: []uint64{root, 0}, Slots: 4, Boost: -1}
		if !Right(c, v) {
			t.Errorf("of the root and the balance %d: not Right", root)
		}
	}
}

func TestRightOfSeveralWrongs(t *testing.T) {
	v := timed(-1, -1, 3)
	v.Who = []int{4, -1}
	if Right(of(2, 4), v) {
		t.Error("all wrong: Right")
	}
	if Right(api.Config{}, api.Vote{}) {
		t.Error("zero: Right")
	}
}

// P5.1, Same.

func TestSame(t *testing.T) {
	tests := []struct {
		name   string
		change func(v *api.Vote)
		want   bool
	}{
		{"nothing", func(v *api.Vote) {}, true},
		{"other Who", func(v *api.Vote) { v.Who = []int{2} }, true},
		{"nil Who", func(v *api.Vote) { v.Who = nil }, true},
		{"Who that may not be", func(v *api.Vote) { v.Who = []int{3, -1, 3} }, true},
		{"Slot", func(v *api.Vote) { v.Slot = 8 }, false},
		{"Slot below 0", func(v *api.Vote) { v.Slot = -9 }, false},
		{"Head", func(v *api.Vote) { v.Head = 8 }, false},
		{"Head in its greatest bit", func(v *api.Vote) { v.Head += 1 << 63 }, false},
		{"Source's epoch", func(v *api.Vote) { v.Source.Epoch = 0 }, false},
		{"Source's root", func(v *api.Vote) { v.Source.Root = 4 }, false},
		{"Source", func(v *api.Vote) { v.Source = v.Target }, false},
		{"Target's epoch", func(v *api.Vote) { v.Target.Epoch = 3 }, false},
		{"Target's root", func(v *api.Vote) { v.Target.Root = 4 }, false},
		{"Target", func(v *api.Vote) { v.Target = v.Source }, false},
		{"Source and Target changed about", func(v *api.Vote) { v.Source, v.Target = v.Target, v.Source }, false},
		{"all", func(v *api.Vote) { *v = api.Vote{} }, false},
	}
	for _, x := range tests {
		a, b := voted(0, 1), voted(0, 1)
		x.change(&b)
		if got, back := Same(a, b), Same(b, a); got != x.want || back != x.want {
			t.Errorf("%s changed: Same: %v, and %v the other way, want %v", x.name, got, back, x.want)
		}
		if !Same(b, b) {
			t.Errorf("%s changed: not Same as itself", x.name)
		}
	}
	if !Same(api.Vote{}, api.Vote{}) {
		t.Error("zero: not Same")
	}
}

// P5.1, Both.

func TestBoth(t *testing.T) {
	tests := []struct {
		name       string
		a, b, want []int
	}{
		{"the document's", []int{1, 3, 5}, []int{3, 4, 5}, []int{3, 5}},
		{"nobody at all", nil, nil, nil},
		{"empty and nil", []int{}, nil, nil},
		{"nobody in one", []int{1, 2}, nil, nil},
		{"nobody in common", []int{0, 2, 4}, []int{1, 3, 5}, nil},
		{"all of one ahead of the other", []int{0, 1}, []int{2, 3}, nil},
		{"the same", []int{0, 1, 2}, []int{0, 1, 2}, []int{0, 1, 2}},
		{"one in the other", []int{0, 1, 2, 3}, []int{1, 2}, []int{1, 2}},
		{"the first alone", []int{0, 5}, []int{0, 6}, []int{0}},
		{"the last alone", []int{1, 9}, []int{2, 9}, []int{9}},
		{"the last of one is the first of the other", []int{1, 4}, []int{4, 8}, []int{4}},
		{"both fall", []int{5, 3, 1}, []int{5, 4, 3}, []int{3, 5}},
		{"one falls", []int{5, 3, 1}, []int{3, 4, 5}, []int{3, 5}},
		{"in no order", []int{2, 9, 0, 5}, []int{5, 0, 7, 2}, []int{0, 2, 5}},
		{"told twice in one", []int{3, 3, 5}, []int{3, 5}, []int{3, 5}},
		{"told twice in both", []int{3, 3}, []int{3, 3}, []int{3}},
		{"told twice in both, apart", []int{4, 1, 4}, []int{1, 4, 1}, []int{1, 4}},
		{"told twice in one, never in the other", []int{3, 3}, []int{4}, nil},
		{"falling, and told thrice", []int{5, 3, 3, 1, 3}, []int{3, 5, 5}, []int{3, 5}},
		{"below 0", []int{-1, 2}, []int{-3, -1}, []int{-1}},
		{"least and greatest", []int{math.MaxInt, 0, math.MinInt}, []int{math.MinInt, math.MaxInt}, []int{math.MinInt, math.MaxInt}},
	}
	for _, x := range tests {
		a, b := voted(x.a...), voted(x.b...)
		if got := Both(a, b); !slices.Equal(got, x.want) {
			t.Errorf("%s: Both: %v, want %v", x.name, got, x.want)
		}
		if got := Both(b, a); !slices.Equal(got, x.want) {
			t.Errorf("%s, the other way: Both: %v, want %v", x.name, got, x.want)
		}
	}
}

// What the votes say beside who votes is no business of Both.
func TestBothOfVotesThatSayOtherThings(t *testing.T) {
	a, b := voted(1, 3, 5), api.Vote{Slot: -1, Who: []int{3, 4, 5}}
	if got := Both(a, b); !slices.Equal(got, []int{3, 5}) {
		t.Errorf("Both: %v, want [3 5]", got)
	}
}

func TestBothOfMany(t *testing.T) {
	const n = 1 << 16
	all := to(n)
	falling := slices.Clone(all)
	slices.Reverse(falling)
	if got := Both(voted(falling...), voted(all...)); !slices.Equal(got, all) {
		t.Errorf("Both: %d validators, want %d, or they differ", len(got), n)
	}
}

// W6.

func TestNothingHandedInIsChanged(t *testing.T) {
	c, a, b := of(3, 4), voted(5, 3, 3, 1), voted(3, 5, 3)
	Right(c, a)
	Same(a, b)
	Both(a, b)
	if !slices.Equal(a.Who, []int{5, 3, 3, 1}) || !slices.Equal(b.Who, []int{3, 5, 3}) {
		t.Errorf("changed: %v, %v", a.Who, b.Who)
	}
	if !slices.Equal(c.Balances, []uint64{10, 10, 10}) {
		t.Errorf("changed: %v", c.Balances)
	}
}

func TestBothAnswersNewMemory(t *testing.T) {
	a, b := voted(1, 2, 3), voted(1, 2, 3)
	got, again := Both(a, b), Both(a, b)
	for i := range got {
		got[i] = 9
	}
	for _, who := range [][]int{a.Who, b.Who, again} {
		if !slices.Equal(who, []int{1, 2, 3}) {
			t.Errorf("Both shares memory: %v", who)
		}
	}
}
