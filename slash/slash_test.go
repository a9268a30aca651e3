package slash

import (
	"errors"
	"math"
	"slices"
	"testing"

	"psephos/api"
)

// of is a configuration of so many validators, four slots an epoch.
func of(count int) api.Config {
	return api.Config{Balances: slices.Repeat([]uint64{10}, count), Slots: 4}
}

// voted is a vote from an epoch to another one that may be where four slots are an epoch, if those who vote and the epochs may.
func voted(source, target int, who ...int) api.Vote {
	return api.Vote{
		Slot:   target*4 + 1,
		Head:   7,
		Source: api.Point{Epoch: source, Root: 5},
		Target: api.Point{Epoch: target, Root: 6},
		Who:    who,
	}
}

// forHead is a vote like voted's, but for its head.
func forHead(head uint64, source, target int, who ...int) api.Vote {
	v := voted(source, target, who...)
	v.Head = head
	return v
}

// to is the numbers from 0 up to, not with, one.
func to(n int) []int {
	ns := make([]int, n)
	for i := range ns {
		ns[i] = i
	}
	return ns
}

// P6.1, Double.

func TestDouble(t *testing.T) {
	tests := []struct {
		name   string
		change func(v *api.Vote)
		want   bool
	}{
		{"nothing", func(v *api.Vote) {}, false},
		{"other Who", func(v *api.Vote) { v.Who = []int{2, 3} }, false},
		{"nil Who", func(v *api.Vote) { v.Who = nil }, false},
		{"Who that may not be", func(v *api.Vote) { v.Who = []int{3, -1, 3} }, false},
		{"Slot, in the epoch", func(v *api.Vote) { v.Slot++ }, true},
		{"Slot, of another epoch", func(v *api.Vote) { v.Slot += 8 }, true},
		{"Slot below 0", func(v *api.Vote) { v.Slot = -1 }, true},
		{"Head", func(v *api.Vote) { v.Head = 8 }, true},
		{"Head in its greatest bit", func(v *api.Vote) { v.Head += 1 << 63 }, true},
		{"Source's epoch, earlier", func(v *api.Vote) { v.Source.Epoch-- }, true},
		{"Source's epoch, later", func(v *api.Vote) { v.Source.Epoch++ }, true},
		{"Source's root", func(v *api.Vote) { v.Source.Root = 4 }, true},
		{"Target's root", func(v *api.Vote) { v.Target.Root = 4 }, true},
		{"all but Target's epoch", func(v *api.Vote) { *v = api.Vote{Target: api.Point{Epoch: v.Target.Epoch}} }, true},
		{"Target's epoch, one behind", func(v *api.Vote) { v.Target.Epoch++ }, false},
		{"Target's epoch, one ahead", func(v *api.Vote) { v.Target.Epoch-- }, false},
		{"Target's epoch below 0", func(v *api.Vote) { v.Target.Epoch = -v.Target.Epoch }, false},
		{"Target and all else", func(v *api.Vote) { *v = api.Vote{} }, false},
	}
	for _, x := range tests {
		a, b := voted(2, 4, 0, 1), voted(2, 4, 0, 1)
		x.change(&b)
		if got, back := Double(a, b), Double(b, a); got != x.want || back != x.want {
			t.Errorf("%s changed: Double: %v, and %v the other way, want %v", x.name, got, back, x.want)
		}
		if Double(b, b) {
			t.Errorf("%s changed: Double with itself", x.name)
		}
	}
}

// A vote that may not be is Double as any other is: whether it may be is Who's business alone.
func TestDoubleOfVotesThatMayNotBe(t *testing.T) {
	for _, e := range []int{math.MinInt, -1, 0, math.MaxInt} {
		if !Double(forHead(1, 9, e), forHead(2, 9, e)) {
			t.Errorf("Targets of epoch %d, other Heads: not Double", e)
		}
	}
	if Double(voted(0, math.MinInt), voted(0, math.MaxInt)) {
		t.Error("least and greatest Target: Double")
	}
	if Double(api.Vote{}, api.Vote{}) {
		t.Error("zero: Double")
	}
}

// P6.1, Around.

func TestAround(t *testing.T) {
	tests := []struct {
		name           string
		source, target int
		want, back     bool
	}{
		{"Source one ahead, Target one ahead", 2, 5, false, false},
		{"Source one ahead, Target at", 2, 6, false, false},
		{"Source one ahead, Target one behind", 2, 7, true, false},
		{"Source at, Target one ahead", 3, 5, false, false},
		{"Source at, Target at", 3, 6, false, false},
		{"Source at, Target one behind", 3, 7, false, false},
		{"Source one behind, Target one ahead", 4, 5, false, true},
		{"Source one behind, Target at", 4, 6, false, false},
		{"Source one behind, Target one behind", 4, 7, false, false},
		{"Source and Target far apart", 0, 90, true, false},
		{"wholly ahead", 0, 2, false, false},
		{"ends where the other begins", 0, 3, false, false},
		{"begins where the other ends", 6, 9, false, false},
		{"wholly behind", 7, 9, false, false},
		{"an epoch within", 5, 5, false, true},
		{"below 0 and behind", -1, 7, true, false},
		{"least and greatest", math.MinInt, math.MaxInt, true, false},
		{"greatest and least", math.MaxInt, math.MinInt, false, true},
	}
	for _, x := range tests {
		a, b := voted(x.source, x.target, 0), voted(3, 6, 1)
		if got := Around(a, b); got != x.want {
			t.Errorf("%s: Around: %v, want %v", x.name, got, x.want)
		}
		if got := Around(b, a); got != x.back {
			t.Errorf("%s, the other way: Around: %v, want %v", x.name, got, x.back)
		}
		if Around(a, a) {
			t.Errorf("%s: Around itself", x.name)
		}
	}
}

func TestAroundOfTheDocument(t *testing.T) {
	a, b := voted(1, 4), voted(2, 3)
	if !Around(a, b) || Around(b, a) {
		t.Errorf("Around: %v, and %v the other way, want true and false", Around(a, b), Around(b, a))
	}
}

// What votes say beside their epochs is no business of Around.
func TestAroundOfEpochsAlone(t *testing.T) {
	a := api.Vote{Slot: -1, Source: api.Point{Epoch: 1, Root: 9}, Target: api.Point{Epoch: 4}, Who: []int{5, 5}}
	b := api.Vote{Slot: 99, Head: 3, Source: api.Point{Epoch: 2}, Target: api.Point{Epoch: 3, Root: 9}}
	if !Around(a, b) || Around(b, a) {
		t.Errorf("Around: %v, and %v the other way, want true and false", Around(a, b), Around(b, a))
	}
	if Around(api.Vote{}, api.Vote{}) {
		t.Error("zero: Around")
	}
}

// P6.1, Bad.

func TestBad(t *testing.T) {
	tests := []struct {
		name string
		a, b api.Vote
		want bool
	}{
		{"the document's", voted(1, 4), voted(2, 3), true},
		{"one ahead and one behind", voted(2, 7), voted(3, 6), true},
		{"around an epoch", voted(2, 4), voted(3, 3), true},
		{"other Slots", api.Vote{Slot: 1}, api.Vote{Slot: 2}, true},
		{"other Heads", forHead(1, 2, 4), forHead(2, 2, 4), true},
		{"other Sources", voted(2, 4), voted(3, 4), true},
		{"other roots of Source", api.Vote{Source: api.Point{Root: 1}}, api.Vote{Source: api.Point{Root: 2}}, true},
		{"other roots of Target", api.Vote{Target: api.Point{Root: 1}}, api.Vote{Target: api.Point{Root: 2}}, true},
		{"the same", voted(2, 4), voted(2, 4), false},
		{"the same, other Who", voted(2, 4, 0), voted(2, 4, 1), false},
		{"one epoch on", voted(2, 3), voted(3, 4), false},
		{"Source and Target both behind", voted(1, 3), voted(2, 4), false},
		{"one Source, Target behind", voted(2, 3), voted(2, 4), false},
		{"one Source, other Heads", forHead(1, 2, 3), forHead(2, 2, 4), false},
		{"zero", api.Vote{}, api.Vote{}, false},
		{"least and greatest, around", voted(math.MinInt, math.MaxInt), voted(-1, 1), true},
		{"least and greatest, apart", voted(math.MinInt, -1), voted(1, math.MaxInt), false},
		{"votes that may not be, the same", voted(9, -9, 4, 4), voted(9, -9), false},
		{"votes that may not be, one Target", forHead(1, 9, -9), forHead(2, 9, -9), true},
	}
	for _, x := range tests {
		if got, back := Bad(x.a, x.b), Bad(x.b, x.a); got != x.want || back != x.want {
			t.Errorf("%s: Bad: %v, and %v the other way, want %v", x.name, got, back, x.want)
		}
		if Bad(x.a, x.a) || Bad(x.b, x.b) {
			t.Errorf("%s: Bad with itself", x.name)
		}
	}
}

// The three are held against each other, and against the words of the promise, on all short ways.
func TestFunctionsAgree(t *testing.T) {
	const n = 5
	for i := range n * n * n * n {
		a, b := voted(i%n, i/n%n), voted(i/n/n%n, i/n/n/n)
		double, around, back := Double(a, b), Around(a, b), Around(b, a)
		if want := a.Target.Epoch == b.Target.Epoch && a.Source.Epoch != b.Source.Epoch; double != want {
			t.Errorf("%v and %v: Double: %v", a, b, double)
		}
		if want := double || around || back; Bad(a, b) != want {
			t.Errorf("%v and %v: Bad: %v", a, b, !want)
		}
		if double && (around || back) || around && back {
			t.Errorf("%v and %v: Double %v, Around %v, back %v", a, b, double, around, back)
		}
	}
}

// P6.2.

func TestWho(t *testing.T) {
	tests := []struct {
		name string
		a, b api.Vote
		want []int
	}{
		{"around", voted(1, 4, 1, 2, 3), voted(2, 3, 0, 1, 3), []int{1, 3}},
		{"double by Head", forHead(1, 1, 2, 0, 1), forHead(2, 1, 2, 1, 2), []int{1}},
		{"double by Source", voted(1, 3, 0, 2), voted(2, 3, 0, 2), []int{0, 2}},
		{"all", forHead(1, 1, 2, 0, 1, 2, 3), forHead(2, 1, 2, 0, 1, 2, 3), []int{0, 1, 2, 3}},
		{"the first alone", voted(0, 3, 0), voted(1, 2, 0, 1), []int{0}},
		{"the last alone", voted(0, 3, 1, 3), voted(1, 2, 2, 3), []int{3}},
		{"from epoch 0 to it", forHead(1, 0, 0, 2), forHead(2, 0, 0, 2), []int{2}},
		{"around an epoch", voted(2, 4, 2), voted(3, 3, 2), []int{2}},
	}
	for _, x := range tests {
		if got, err := Who(of(4), api.Proof{A: x.a, B: x.b}); err != nil || !slices.Equal(got, x.want) {
			t.Errorf("%s: Who: %v, %v, want %v", x.name, got, err, x.want)
		}
		if got, err := Who(of(4), api.Proof{A: x.b, B: x.a}); err != nil || !slices.Equal(got, x.want) {
			t.Errorf("%s, the other way: Who: %v, %v, want %v", x.name, got, err, x.want)
		}
	}
}

// Votes that differ in one thing alone, each of which may be.
func TestWhoOfVotesThatDifferInOneThing(t *testing.T) {
	changes := map[string]func(v *api.Vote){
		"Slot":           func(v *api.Vote) { v.Slot++ },
		"Head":           func(v *api.Vote) { v.Head++ },
		"Source's epoch": func(v *api.Vote) { v.Source.Epoch++ },
		"Source's root":  func(v *api.Vote) { v.Source.Root++ },
		"Target's root":  func(v *api.Vote) { v.Target.Root++ },
	}
	for name, change := range changes {
		a, b := voted(2, 4, 0, 1, 3), voted(2, 4, 1, 2, 3)
		change(&b)
		if got, err := Who(of(4), api.Proof{A: a, B: b}); err != nil || !slices.Equal(got, []int{1, 3}) {
			t.Errorf("%s: Who: %v, %v, want [1 3]", name, got, err)
		}
	}
}

func TestWhoOfMany(t *testing.T) {
	all := to(api.MaxValidators)
	p := api.Proof{A: forHead(1, 1, 2, all...), B: forHead(2, 1, 2, all...)}
	if got, err := Who(of(api.MaxValidators), p); err != nil || !slices.Equal(got, all) {
		t.Errorf("Who: %d validators, %v, want %d", len(got), err, len(all))
	}
}

// noProof asks that Who of a proof is nothing and ErrProof, and so of the same votes the other way about.
func noProof(t *testing.T, name string, c api.Config, a, b api.Vote) {
	t.Helper()
	for _, p := range []api.Proof{{A: a, B: b}, {A: b, B: a}} {
		if got, err := Who(c, p); len(got) != 0 || !errors.Is(err, api.ErrProof) {
			t.Errorf("%s: Who: %v, %v, want nothing and ErrProof", name, got, err)
		}
	}
}

// Each change leaves the votes Bad, with somebody in both: they are no proof because one may not be.
func TestWhoOfAVoteThatMayNotBe(t *testing.T) {
	tests := []struct {
		name   string
		change func(v *api.Vote)
	}{
		{"a validator that there is not", func(v *api.Vote) { v.Who = []int{1, 4} }},
		{"a validator below 0", func(v *api.Vote) { v.Who = []int{-1, 1} }},
		{"validators that fall", func(v *api.Vote) { v.Who = []int{2, 1} }},
		{"a validator told twice", func(v *api.Vote) { v.Who = []int{1, 1} }},
		{"Slot of the epoch ahead", func(v *api.Vote) { v.Slot = 15 }},
		{"Slot of the epoch behind", func(v *api.Vote) { v.Slot = 20 }},
		{"Slot below 0", func(v *api.Vote) { v.Slot = -1 }},
		{"Source below 0", func(v *api.Vote) { v.Source.Epoch = -1 }},
		{"Source above Target", func(v *api.Vote) { v.Source.Epoch = 5 }},
		{"least Source", func(v *api.Vote) { v.Source.Epoch = math.MinInt }},
	}
	for _, x := range tests {
		a, b := voted(2, 4, 0, 1, 2), forHead(8, 2, 4, 1, 2)
		x.change(&b)
		if !Bad(a, b) {
			t.Errorf("%s: not Bad", x.name)
		}
		noProof(t, x.name, of(4), a, b)
		noProof(t, x.name+", and so the other one", of(4), b, forHead(9, 2, 4, b.Who...))
	}
}

// A vote that goes around another one, of which one may not be.
func TestWhoOfAroundThatMayNotBe(t *testing.T) {
	outer, inner := voted(1, 4, 0, 1), voted(2, 3, 1, 2)
	late := outer
	late.Slot = 20
	noProof(t, "the outer one's Slot", of(4), late, inner)
	late = inner
	late.Slot = 16
	noProof(t, "the inner one's Slot", of(4), outer, late)
	noProof(t, "the outer one's Source", of(4), voted(-1, 4, 1), inner)
	noProof(t, "the inner one's Source above its Target", of(4), outer, voted(3, 2, 1))
	noProof(t, "fewer validators", of(2), outer, inner)
}

func TestWhoOfVotesThatAreNotBad(t *testing.T) {
	tests := []struct {
		name string
		a, b api.Vote
	}{
		{"the same", voted(1, 2, 0, 1), voted(1, 2, 0, 1)},
		{"the same, others beside", voted(1, 2, 0, 1), voted(1, 2, 1, 2)},
		{"one epoch on", voted(1, 2, 0, 1), voted(2, 3, 0, 1)},
		{"Source and Target both behind", voted(1, 3, 0, 1), voted(2, 4, 0, 1)},
		{"one Source", voted(1, 4, 0, 1), voted(1, 3, 0, 1)},
		{"one Source, other Heads", forHead(1, 1, 4, 0, 1), forHead(2, 1, 3, 0, 1)},
		{"far apart", voted(0, 1, 0), voted(8, 9, 0)},
	}
	for _, x := range tests {
		noProof(t, x.name, of(4), x.a, x.b)
	}
}

func TestWhoOfNobodyInBoth(t *testing.T) {
	noProof(t, "double", of(4), forHead(1, 1, 2, 0, 2), forHead(2, 1, 2, 1, 3))
	noProof(t, "around", of(4), voted(1, 4, 0, 2), voted(2, 3, 1, 3))
	noProof(t, "nobody in one", of(4), forHead(1, 1, 2), forHead(2, 1, 2, 1))
	noProof(t, "nobody in either", of(4), voted(1, 4), voted(2, 3))
}

func TestWhoOfAllWrong(t *testing.T) {
	noProof(t, "zero", api.Config{}, api.Vote{}, api.Vote{})
	noProof(t, "zero votes", of(4), api.Vote{}, api.Vote{})
	noProof(t, "numbers at their ends", of(4), voted(math.MinInt, math.MaxInt, math.MaxInt), voted(math.MaxInt, math.MinInt, math.MinInt))
}

// W1: of a configuration that may not be no more is promised than that the call ends.
func TestWhoOfAConfigurationThatMayNotBe(t *testing.T) {
	p := api.Proof{A: voted(1, 4, 0, 1), B: voted(2, 3, 1, 2)}
	for _, slots := range []int{math.MinInt, -1, 0, 65, math.MaxInt} {
		Who(api.Config{Slots: slots}, p)
		Who(api.Config{Balances: []uint64{math.MaxUint64, 0, 1}, Slots: slots, Boost: -1}, p)
	}
}

// W6.

func TestNothingHandedInIsChanged(t *testing.T) {
	c, a, b := of(3), voted(1, 4, 2, 1, 1), voted(2, 3, 1, 0)
	Double(a, b)
	Around(a, b)
	Bad(a, b)
	Who(c, api.Proof{A: a, B: b})
	if !slices.Equal(a.Who, []int{2, 1, 1}) || !slices.Equal(b.Who, []int{1, 0}) {
		t.Errorf("changed: %v, %v", a.Who, b.Who)
	}
	if !slices.Equal(c.Balances, []uint64{10, 10, 10}) {
		t.Errorf("changed: %v", c.Balances)
	}
}

func TestWhoAnswersNewMemory(t *testing.T) {
	p := api.Proof{A: voted(1, 4, 0, 1, 2), B: voted(2, 3, 0, 1, 2)}
	got, _ := Who(of(3), p)
	again, _ := Who(of(3), p)
	for i := range got {
		got[i] = 9
	}
	for _, who := range [][]int{p.A.Who, p.B.Who, again} {
		if !slices.Equal(who, []int{0, 1, 2}) {
			t.Errorf("Who shares memory: %v", who)
		}
	}
}
