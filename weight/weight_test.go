package weight

import (
	"math"
	"reflect"
	"slices"
	"testing"

	"psephos/api"
	"psephos/latest"
	"psephos/tree"
)

// wood is the blocks 2 on 1, 3 on 2, 4 on 3, 5 on 4, and beside them 6 on 1, 7 on 6 and 8 on 3; 1 is the first one.
func wood() *tree.Tree {
	t := tree.Of(1, 0)
	for _, b := range [][2]uint64{{2, 1}, {3, 2}, {4, 3}, {5, 4}, {6, 1}, {7, 6}, {8, 3}} {
		_, slot, _, _ := t.Get(b[1])
		if t.Add(b[0], b[1], slot+1) != nil {
			panic("no such tree")
		}
	}
	return t
}

// branch is what is Below a block of the wood.
var branch = map[uint64][]uint64{
	1: {1, 2, 3, 4, 5, 6, 7, 8},
	2: {2, 3, 4, 5, 8},
	3: {3, 4, 5, 8},
	4: {4, 5},
	5: {5},
	6: {6, 7},
	7: {7},
	8: {8},
}

// strangers are roots that the wood does not have.
func strangers() []uint64 { return []uint64{0, 9, 10, 1 << 32, 1<<32 + 1, 1 << 63, math.MaxUint64} }

// each is the balances 1, 2, 4 and so on of n validators, without a boost: a sum tells of whom it is.
func each(n int) api.Config {
	c := api.Config{Slots: 1}
	for k := range n {
		c.Balances = append(c.Balances, 1<<k)
	}
	return c
}

// cast is the votes of validators for blocks, in order, all of epoch 1; nobody votes for absent.
func cast(roots ...uint64) latest.Votes {
	v := latest.Of(len(roots))
	for who, root := range roots {
		if root != absent {
			v.Take(who, 1, root)
		}
	}
	return v
}

const absent = 1 << 50

func checkOf(t *testing.T, name string, c api.Config, x *tree.Tree, v latest.Votes, boosted, root, want uint64) {
	t.Helper()
	if got := Of(c, x, v, boosted, root); got != want {
		t.Errorf("%s: of %d, %d boosted: %d, want %d", name, root, boosted, got, want)
	}
}

// P12.2, the chapter's example; and that of the document's first page, as far as weights go.

func TestExample(t *testing.T) {
	seven := func(uint64) uint64 { return 7 }
	if root, ok := Best(seven, 3, 5, 4); root != 5 || !ok {
		t.Errorf("Best of 3, 5, 4 that all have 7: %d, %v", root, ok)
	}
}

func TestExampleOfTheFirstPage(t *testing.T) {
	c := api.Config{Balances: []uint64{10, 10, 10}, Slots: 4}
	x, v := tree.Of(1, 0), latest.Of(3)
	_, _ = x.Add(2, 1, 4), x.Add(3, 1, 5)
	of := func(root uint64) uint64 { return Of(c, x, v, 0, root) }
	step := func(name string, two, three, head uint64) {
		t.Helper()
		if of(2) != two || of(3) != three {
			t.Errorf("%s: %d, %d, want %d, %d", name, of(2), of(3), two, three)
		}
		if best, ok := Best(of, x.Kids(1)...); best != head || !ok {
			t.Errorf("%s: Best: %d, %v, want %d", name, best, ok, head)
		}
	}
	step("without votes", 0, 0, 3)
	v.Take(0, 1, 2)
	v.Take(1, 1, 2)
	step("0 and 1 for 2", 20, 0, 2)
	v.Ban(0)
	step("without 0", 10, 0, 2)
	v.Ban(1)
	step("without 0 and 1", 0, 0, 3)
}

// P12.1: where nobody has voted.

func TestOfWithoutVotes(t *testing.T) {
	c := api.Config{Balances: []uint64{10, 20, 30}, Slots: 4}
	for _, v := range []latest.Votes{nil, {}, latest.Of(1), latest.Of(3), latest.Of(5)} {
		for root := range branch {
			checkOf(t, "nobody has voted", c, wood(), v, 0, root, 0)
		}
		for _, root := range strangers() {
			checkOf(t, "nobody has voted", c, wood(), v, 0, root, 0)
		}
	}
}

// That there is a vote is told by Has alone.

func TestOfEntriesThatHaveNone(t *testing.T) {
	v := latest.Votes{{Epoch: 3, Root: 2}, {Root: 2}, {Has: true, Root: 2}}
	checkOf(t, "two that have none", each(3), wood(), v, 0, 2, 4)
}

// P12.1: a vote for the block itself, for one on it at once, far above it, beside it and below it, each by itself.

func TestOfOneVote(t *testing.T) {
	c := api.Config{Balances: []uint64{10}, Slots: 4}
	for root, its := range branch {
		for on := uint64(1); on <= 8; on++ {
			want := uint64(0)
			if slices.Contains(its, on) {
				want = 10
			}
			checkOf(t, "one vote", c, wood(), cast(on), 0, root, want)
		}
	}
}

func TestOfOneVoteByName(t *testing.T) {
	c := api.Config{Balances: []uint64{10}, Slots: 4}
	for _, x := range []struct {
		name     string
		on, root uint64
		want     uint64
	}{
		{"for the block itself", 3, 3, 10},
		{"for the first block itself", 1, 1, 10},
		{"for a last block itself", 5, 5, 10},
		{"for one that stands on it at once", 4, 3, 10},
		{"for the other one that stands on it at once", 8, 3, 10},
		{"for one far above it", 5, 2, 10},
		{"for one far above the first one", 5, 1, 10},
		{"for one beside it, on the same parent", 6, 2, 0},
		{"for one beside it, that came ahead", 2, 6, 0},
		{"for one above one beside it", 7, 2, 0},
		{"for one above one beside it, as high", 7, 3, 0},
		{"for a last one beside it", 8, 4, 0},
		{"for the parent", 2, 3, 0},
		{"for one far below it", 1, 5, 0},
		{"for the first one, below it", 1, 2, 0},
	} {
		checkOf(t, x.name, c, wood(), cast(x.on), 0, x.root, x.want)
	}
}

// P12.1: the sum of all such.

func TestOfManyVotes(t *testing.T) {
	v := cast(1, 2, 3, 4, 5, 6, 7, 8)
	for _, x := range []struct{ root, want uint64 }{
		{1, 255}, {2, 2 + 4 + 8 + 16 + 128}, {3, 4 + 8 + 16 + 128}, {4, 8 + 16}, {5, 16}, {6, 32 + 64}, {7, 64}, {8, 128},
	} {
		checkOf(t, "a vote for each", each(8), wood(), v, 0, x.root, x.want)
	}
}

func TestOfManyVotesForOne(t *testing.T) {
	v := cast(3, 5, 3, 7, 5, 3, absent, 3)
	for _, x := range []struct{ root, want uint64 }{
		{1, 255 - 64}, {2, 1 + 2 + 4 + 16 + 32 + 128}, {3, 1 + 2 + 4 + 16 + 32 + 128}, {4, 2 + 16}, {5, 2 + 16}, {6, 8}, {7, 8}, {8, 0},
	} {
		checkOf(t, "some for the same", each(8), wood(), v, 0, x.root, x.want)
	}
}

// The last vote alone counts, of whatever epoch.

func TestOfTheLastVote(t *testing.T) {
	x, v := wood(), latest.Of(2)
	v.Take(0, 1, 5)
	checkOf(t, "the first vote", each(2), x, v, 0, 2, 1)
	checkOf(t, "the first vote", each(2), x, v, 0, 6, 0)
	v.Take(0, 2, 7)
	checkOf(t, "the next vote", each(2), x, v, 0, 2, 0)
	checkOf(t, "the next vote", each(2), x, v, 0, 6, 1)
	v.Take(0, 2, 5)
	checkOf(t, "one that was not taken", each(2), x, v, 0, 2, 0)
	v.Take(1, math.MinInt, 6)
	checkOf(t, "one of an early epoch", each(2), x, v, 0, 6, 3)
}

// P12.1: votes for a block that the tree does not have.

func TestOfVotesForNoBlock(t *testing.T) {
	for _, on := range strangers() {
		v := cast(on, 3, on)
		for root, its := range branch {
			want := uint64(0)
			if slices.Contains(its, 3) {
				want = 2
			}
			checkOf(t, "votes for no block", each(3), wood(), v, 0, root, want)
		}
		// Not of that one itself, either.
		checkOf(t, "votes for no block", each(3), wood(), v, 0, on, 0)
		checkOf(t, "votes for no block, which is boosted", api.Config{Balances: []uint64{1, 2, 4}, Slots: 1, Boost: 100}, wood(), v, on, on, 0)
	}
}

// P12.1: votes by validators that are banned.

func TestOfBanned(t *testing.T) {
	v := cast(3, 3, 4, 2)
	checkOf(t, "nobody banned", each(4), wood(), v, 0, 3, 7)
	v.Ban(1)
	checkOf(t, "1 banned", each(4), wood(), v, 0, 3, 5)
	checkOf(t, "1 banned", each(4), wood(), v, 0, 1, 13)
	v.Ban(2)
	checkOf(t, "1 and 2 banned", each(4), wood(), v, 0, 3, 1)
	checkOf(t, "1 and 2 banned", each(4), wood(), v, 0, 4, 0)
	v.Ban(0)
	v.Ban(3)
	checkOf(t, "all banned", each(4), wood(), v, 0, 1, 0)
}

func TestOfBannedWithoutVote(t *testing.T) {
	v := latest.Of(2)
	v.Ban(0)
	v.Take(0, 1, 2)
	v.Take(1, 1, 2)
	checkOf(t, "banned ahead of its vote", each(2), wood(), v, 0, 2, 2)
}

// P12.1: votes by validators that the configuration does not have, and of more that it has than have entries.

func TestOfMoreVotesThanBalances(t *testing.T) {
	v := cast(3, 3, 3, 4, 5)
	for n, want := range []uint64{0, 1, 3, 7, 15, 31, 31, 31} {
		checkOf(t, "votes of five", each(n), wood(), v, 0, 3, want)
		checkOf(t, "votes of five", each(n), wood(), v, 0, 1, want)
	}
	checkOf(t, "no balances", api.Config{Slots: 1, Boost: 100}, wood(), v, 3, 3, 0)
}

func TestOfMoreBalancesThanVotes(t *testing.T) {
	for n := range 6 {
		v := cast(slices.Repeat([]uint64{3}, n)...)
		checkOf(t, "some of six", each(6), wood(), v, 0, 3, 1<<n-1)
		checkOf(t, "some of six", each(6), wood(), v, 0, 4, 0)
	}
}

// P12.1: balances of 0, and those that are as great as may be.

func TestOfBalances(t *testing.T) {
	c := api.Config{Balances: []uint64{0, 5, 0, 7}, Slots: 1}
	checkOf(t, "one of 0", c, wood(), cast(3, absent, absent, absent), 0, 3, 0)
	checkOf(t, "two of 0", c, wood(), cast(3, absent, 4, absent), 0, 3, 0)
	checkOf(t, "some of 0", c, wood(), cast(3, 3, 4, 5), 0, 3, 12)
	checkOf(t, "some of 0", c, wood(), cast(3, 3, 4, 5), 0, 4, 7)
	checkOf(t, "all of 0", api.Config{Balances: make([]uint64, 3), Slots: 1, Boost: 100}, wood(), cast(3, 3, 3), 3, 3, 0)

	most := api.Config{Balances: slices.Repeat([]uint64{api.MaxBalance}, api.MaxValidators), Slots: 1, Boost: 100}
	v := cast(slices.Repeat([]uint64{5}, api.MaxValidators)...)
	checkOf(t, "as much as may be", most, wood(), v, 0, 2, 1<<44)
	checkOf(t, "as much as may be, and a boost", most, wood(), v, 5, 2, 1<<45)
}

// P12.1: of a block that the tree does not have, of the first one, and of one that was cut off.

func TestOfNoBlock(t *testing.T) {
	c := api.Config{Balances: []uint64{1, 2, 4, 8}, Slots: 1, Boost: 100}
	v := cast(1, 3, 5, 7)
	for _, root := range strangers() {
		checkOf(t, "no block", c, wood(), v, 0, root, 0)
		checkOf(t, "no block", c, wood(), v, 3, root, 0)
		checkOf(t, "no block", c, wood(), v, root, root, 0)
	}
}

func TestOfTheFirstBlock(t *testing.T) {
	for first := range uint64(3) {
		x := tree.Of(first, 4)
		checkOf(t, "the first block alone", each(2), x, latest.Of(2), 9, first, 0)
		checkOf(t, "the first block alone", each(2), x, cast(first, 9), 9, first, 1)
		if err := x.Add(7, first, 5); err != nil {
			t.Fatal(err)
		}
		checkOf(t, "the first block", each(3), x, cast(first, 7, 9), 9, first, 3)
	}
}

func TestOfWhatWasCutOff(t *testing.T) {
	c := api.Config{Balances: []uint64{1, 2, 4, 8, 16}, Slots: 1, Boost: 100}
	x, v := wood(), cast(1, 2, 3, 5, 7)
	checkOf(t, "ahead of Cut", c, x, v, 2, 1, 31+31)
	checkOf(t, "ahead of Cut", c, x, v, 7, 6, 31+16)
	x.Cut(3)
	for _, root := range []uint64{1, 2, 6, 7} {
		checkOf(t, "cut off", c, x, v, 0, root, 0)
		checkOf(t, "cut off", c, x, v, root, root, 0)
		checkOf(t, "cut off", c, x, v, 5, root, 0)
		// Votes for such a one, and its boost, are for nothing.
		checkOf(t, "kept", c, x, v, root, 3, 12)
		checkOf(t, "kept", c, x, v, root, 4, 8)
	}
	checkOf(t, "kept", c, x, v, 5, 3, 12+31)
	checkOf(t, "kept", c, x, v, 4, 5, 8)
}

// The answer hangs on the tree as it is now.

func TestOfATreeThatGrows(t *testing.T) {
	x, v := wood(), cast(9, 3)
	checkOf(t, "ahead of Add", each(2), x, v, 0, 3, 2)
	if err := x.Add(9, 5, 8); err != nil {
		t.Fatal(err)
	}
	checkOf(t, "behind Add", each(2), x, v, 0, 3, 3)
	checkOf(t, "behind Add", each(2), x, v, 0, 9, 1)
}

func TestOfATreeWithoutBlocks(t *testing.T) {
	c := api.Config{Balances: []uint64{1, 2}, Slots: 1, Boost: 100}
	for _, root := range []uint64{0, 1, math.MaxUint64} {
		checkOf(t, "no tree", c, &tree.Tree{}, cast(root, root), root, root, 0)
	}
}

// P12.1: the boosted block: the block itself, one that stands on it, one beside it, one below it, one that is not there; with boosts of 0 and above, with votes and without.

func TestOfBoosted(t *testing.T) {
	places := []struct {
		name          string
		boosted, root uint64
		is            bool
	}{
		{"itself", 3, 3, true},
		{"the first one itself", 1, 1, true},
		{"a last one itself", 5, 5, true},
		{"one that stands on it at once", 4, 3, true},
		{"one far above it", 5, 2, true},
		{"one far above the first one", 7, 1, true},
		{"one beside it", 6, 2, false},
		{"one above one beside it", 7, 3, false},
		{"a last one beside it", 8, 4, false},
		{"its parent", 2, 3, false},
		{"the first one, below it", 1, 5, false},
		{"none", 0, 3, false},
		{"one that is not there", 9, 3, false},
		{"one that is not there", math.MaxUint64, 1, false},
	}
	// All that have votes, that have none, and a vote for one that is not boosted: of each block of the places.
	votes := []struct {
		v   latest.Votes
		has map[uint64]uint64
	}{
		{latest.Of(3), map[uint64]uint64{}},
		{cast(5, 8, 7), map[uint64]uint64{1: 700, 2: 300, 3: 300, 4: 100, 5: 100}},
		{cast(3, 1, 6), map[uint64]uint64{1: 700, 2: 100, 3: 100}},
	}
	for _, b := range []struct {
		slots, boost int
		adds         uint64
	}{
		{1, 0, 0}, {1, 1, 7}, {1, 40, 280}, {1, 100, 700}, {4, 0, 0}, {4, 40, 70}, {4, 100, 175}, {64, 1, 0}, {64, 40, 4}, {64, 100, 10},
	} {
		c := api.Config{Balances: []uint64{100, 200, 400}, Slots: b.slots, Boost: b.boost}
		for _, p := range places {
			for _, x := range votes {
				want := x.has[p.root]
				if p.is {
					want += b.adds
				}
				checkOf(t, p.name, c, wood(), x.v, p.boosted, p.root, want)
			}
		}
	}
}

// The boost is of all balances, not of those that voted, and it counts once.

func TestOfBoostIsOfAllBalances(t *testing.T) {
	c := api.Config{Balances: []uint64{10, 20, 30, 0, 40}, Slots: 2, Boost: 50}
	checkOf(t, "no votes", c, wood(), nil, 4, 3, 25)
	checkOf(t, "one vote", c, wood(), cast(4), 4, 3, 35)
	checkOf(t, "two votes for the boosted one", c, wood(), cast(4, 4), 4, 3, 55)
	v := cast(4, 4, 4, 4, 4)
	for who := range v {
		v.Ban(who)
	}
	checkOf(t, "all banned", c, wood(), v, 4, 3, 25)
}

// The block that is boosted may have the root 0, where the tree has it.

func TestOfRootZero(t *testing.T) {
	c := api.Config{Balances: []uint64{1, 2, 4}, Slots: 1, Boost: 100}
	x := tree.Of(1, 0)
	_, _ = x.Add(0, 1, 1), x.Add(math.MaxUint64, 0, 2)
	v := cast(1, 0, math.MaxUint64)
	checkOf(t, "0 in the tree", c, x, v, 9, 0, 6)
	checkOf(t, "0 in the tree", c, x, v, 0, 0, 6+7)
	checkOf(t, "0 in the tree", c, x, v, 0, 1, 7+7)
	checkOf(t, "0 in the tree", c, x, v, 0, math.MaxUint64, 4)
	checkOf(t, "0 in the tree", c, x, v, math.MaxUint64, 0, 6+7)
}

// W1: a configuration that may not be.

func TestOfConfigurationsThatMayNotBe(t *testing.T) {
	for _, n := range []int{math.MinInt, -1, 0, 65, math.MaxInt} {
		for _, b := range [][]uint64{nil, {math.MaxUint64, math.MaxUint64}, {1, 1 << 40}} {
			for root := range uint64(10) {
				Of(api.Config{Balances: b, Slots: n, Boost: n}, wood(), cast(3, 4, 5), 4, root)
			}
		}
	}
}

// W6, W2: it changes nothing of what is handed in, and says the same again.

func TestOfChangesNothing(t *testing.T) {
	config := func() api.Config { return api.Config{Balances: []uint64{1, 2, 4, 8}, Slots: 2, Boost: 60} }
	votes := func() latest.Votes {
		v := cast(3, 5, absent, 9)
		v.Ban(1)
		return v
	}
	c, x, v := config(), wood(), votes()
	// What lies behind the lists is not touched either.
	c.Balances, v = append(c.Balances, 77)[:4], append(v, latest.Entry{Root: 77})[:4]
	for _, root := range []uint64{0, 1, 2, 3, 5, 6, 9} {
		for _, boosted := range []uint64{0, 1, 3, 5, 9} {
			if a, b := Of(c, x, v, boosted, root), Of(c, x, v, boosted, root); a != b {
				t.Errorf("of %d, %d boosted: %d, and then %d", root, boosted, a, b)
			}
		}
	}
	if !reflect.DeepEqual(c, config()) || !reflect.DeepEqual(x, wood()) || !reflect.DeepEqual(v, votes()) {
		t.Errorf("behind Of: %v, %v, %v", c, x.Roots(), v)
	}
	if c.Balances[:5][4] != 77 || v[:5][4] != (latest.Entry{Root: 77}) {
		t.Error("what lies behind the lists is changed")
	}
}

// P12.2, Best.

// table is a function that tells what each root of a list has, by its place there.
func table(roots, has []uint64) func(uint64) uint64 {
	return func(root uint64) uint64 { return has[slices.Index(roots, root)] }
}

func checkBest(t *testing.T, name string, of func(uint64) uint64, roots []uint64, want uint64) {
	t.Helper()
	if got, ok := Best(of, roots...); got != want || !ok {
		t.Errorf("%s: Best of %v: %d, %v, want %d, true", name, roots, got, ok, want)
	}
}

func TestBestOfNone(t *testing.T) {
	for _, roots := range [][]uint64{nil, {}, make([]uint64, 0, 3)} {
		for _, n := range []uint64{0, 1, math.MaxUint64} {
			if root, ok := Best(func(uint64) uint64 { return n }, roots...); root != 0 || ok {
				t.Errorf("Best of none: %d, %v", root, ok)
			}
		}
	}
}

func TestBestOfOne(t *testing.T) {
	for _, root := range []uint64{0, 1, 2, 1 << 32, 1 << 63, math.MaxUint64} {
		for _, n := range []uint64{0, 1, 1 << 32, 1 << 63, math.MaxUint64} {
			checkBest(t, "one", func(uint64) uint64 { return n }, []uint64{root}, root)
		}
	}
}

// One that has most, at each place, whatever its root is among the others.

func TestBestOfSeveral(t *testing.T) {
	for n := 2; n <= 6; n++ {
		for place := range n {
			for turn := range n {
				roots, has := make([]uint64, n), make([]uint64, n)
				for k := range n {
					roots[k], has[k] = uint64(10+(k+turn)%n), uint64(k*7%5)
				}
				for _, most := range []uint64{5, 6, 1 << 32, 1 << 63, math.MaxUint64} {
					has[place] = most
					checkBest(t, "one that has most", table(roots, has), roots, roots[place])
				}
			}
		}
	}
}

// That one has more is told of all 64 bits.

func TestBestOfGreatNumbers(t *testing.T) {
	for _, x := range []struct{ less, more uint64 }{
		{0, 1}, {1, 2}, {1<<32 - 1, 1 << 32}, {5, 1<<32 + 4}, {1<<63 - 1, 1 << 63}, {1, 1 << 63}, {math.MaxUint64 - 1, math.MaxUint64}, {0, math.MaxUint64},
	} {
		of := table([]uint64{4, 3}, []uint64{x.less, x.more})
		checkBest(t, "more", of, []uint64{3, 4}, 3)
		checkBest(t, "more", of, []uint64{4, 3}, 3)
		// And of the roots themselves.
		same := func(uint64) uint64 { return 7 }
		checkBest(t, "greater roots", same, []uint64{x.less, x.more}, x.more)
		checkBest(t, "greater roots", same, []uint64{x.more, x.less}, x.more)
	}
}

// Several that have as much, with the greatest root at each place; beside others with less, whose roots are greater.

func TestBestOfThoseThatHaveAsMuch(t *testing.T) {
	for n := 2; n <= 6; n++ {
		for place := range n {
			for _, all := range []uint64{0, 1, 7, math.MaxUint64} {
				roots := make([]uint64, n)
				for k := range n {
					roots[k] = uint64(20 + k*3%n)
				}
				roots[place] = 90
				checkBest(t, "as much", func(uint64) uint64 { return all }, roots, 90)
			}
		}
	}
	roots, has := []uint64{9, 3, 8, 5, 4, 7, 6}, []uint64{1, 7, 6, 7, 7, 0, 5}
	checkBest(t, "as much beside others", table(roots, has), roots, 5)
	for turn := range roots {
		checkBest(t, "as much beside others", table(roots, has), append(slices.Clone(roots[turn:]), roots[:turn]...), 5)
	}
}

func TestBestOfAllThatHaveNothing(t *testing.T) {
	nothing := func(uint64) uint64 { return 0 }
	checkBest(t, "nothing", nothing, []uint64{1, 2, 3}, 3)
	checkBest(t, "nothing", nothing, []uint64{3, 2, 1}, 3)
	checkBest(t, "nothing", nothing, []uint64{2, 3, 1}, 3)
	checkBest(t, "nothing", nothing, []uint64{0, 0}, 0)
}

func TestBestOfARootTwice(t *testing.T) {
	of := func(root uint64) uint64 { return root % 4 }
	checkBest(t, "twice, with most", of, []uint64{3, 3}, 3)
	checkBest(t, "twice, with most", of, []uint64{3, 2, 3, 1}, 3)
	checkBest(t, "twice, with less", of, []uint64{6, 6, 3, 6}, 3)
	checkBest(t, "twice, with as much", of, []uint64{3, 7, 3}, 7)
	checkBest(t, "twice, with as much", of, []uint64{7, 3, 7}, 7)
}

func TestBestOfTheLeastAndTheGreatestRoot(t *testing.T) {
	const top = math.MaxUint64
	for _, x := range []struct {
		roots, has []uint64
		want       uint64
	}{
		{[]uint64{0, top}, []uint64{0, 0}, top},
		{[]uint64{top, 0}, []uint64{0, 0}, top},
		{[]uint64{0, top}, []uint64{1, 0}, 0},
		{[]uint64{top, 0}, []uint64{0, 1}, 0},
		{[]uint64{0, 1, top}, []uint64{5, 5, 4}, 1},
		{[]uint64{0, 1}, []uint64{top, top - 1}, 0},
		{[]uint64{1, 0}, []uint64{top, top}, 1},
		{[]uint64{top - 1, top}, []uint64{7, 7}, top},
		{[]uint64{top, top - 1}, []uint64{7, 7}, top},
		{[]uint64{top, top - 1}, []uint64{7, 8}, top - 1},
		{[]uint64{1<<63 - 1, 1 << 63}, []uint64{7, 7}, 1 << 63},
	} {
		checkBest(t, "0 and the greatest one", table(x.roots, x.has), x.roots, x.want)
	}
}

// W6: the roots stay as they are.

func TestBestChangesNothing(t *testing.T) {
	roots := []uint64{3, 9, 3, 0, 5, 77}
	Best(func(root uint64) uint64 { return root % 3 }, roots[:5]...)
	if !slices.Equal(roots, []uint64{3, 9, 3, 0, 5, 77}) {
		t.Errorf("behind Best: %v", roots)
	}
}

// Nothing but the function tells what a block has: it is asked of these roots, and what it told is not kept.

func TestBestAsksAnew(t *testing.T) {
	has := map[uint64]uint64{3: 1, 4: 2}
	of := func(root uint64) uint64 {
		if root != 3 && root != 4 {
			t.Errorf("of(%d) was asked for", root)
		}
		return has[root]
	}
	checkBest(t, "4 has more", of, []uint64{3, 4}, 4)
	has[3] = 3
	checkBest(t, "3 has more", of, []uint64{3, 4}, 3)
}

// T6: no weight is above all balances and a boost.

func TestNoWeightIsAboveAll(t *testing.T) {
	c := api.Config{Balances: []uint64{10, 20, 30}, Slots: 2, Boost: 50}
	for _, v := range []latest.Votes{cast(3, 3, 3), cast(5, 5, 5), cast(1, 3, 5), cast(3, 3, 3, 3, 3)} {
		for root := range uint64(10) {
			for boosted := range uint64(10) {
				if n := Of(c, wood(), v, boosted, root); n > 60+15 {
					t.Errorf("of %d, %d boosted: %d", root, boosted, n)
				}
			}
		}
	}
	checkOf(t, "all of it", c, wood(), cast(5, 5, 5), 5, 2, 75)
}
