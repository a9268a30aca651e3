package latest

import (
	"math"
	"slices"
	"testing"

	"psephos/api"
)

// cast is the entry of a vote that counts, out that of one whose validator is banned.
func cast(epoch int, root uint64) Entry { return Entry{Has: true, Epoch: epoch, Root: root} }

func out(epoch int, root uint64) Entry {
	return Entry{Has: true, Epoch: epoch, Root: root, Banned: true}
}

// none is the entry of one who has no vote, gone that of one who is banned without one.
var (
	none = Entry{}
	gone = Entry{Banned: true}
)

// mixed is an entry of each kind, each vote of another epoch and for another block.
func mixed() Votes { return Votes{none, cast(3, 30), gone, out(4, 40), cast(5, 50)} }

// strangers are numbers that are no validators among so many.
func strangers(n int) []int {
	return []int{-1, -2, -n, -n - 1, math.MinInt, math.MinInt + 1, n, n + 1, 2*n + 1, api.MaxValidators, 1 << 32, math.MaxInt}
}

// with is votes with another entry for one of them.
func with(v Votes, who int, e Entry) Votes {
	w := slices.Clone(v)
	w[who] = e
	return w
}

func check(t *testing.T, name string, got, want Votes) {
	t.Helper()
	if !slices.Equal(got, want) {
		t.Errorf("%s: %v, want %v", name, got, want)
	}
}

func checkGet(t *testing.T, name string, v Votes, who int, root uint64, has bool) {
	t.Helper()
	if got, ok := v.Get(who); got != root || ok != has {
		t.Errorf("%s: Get(%d): %d, %v, want %d, %v", name, who, got, ok, root, has)
	}
}

// P11.1, the chapter's example.

func TestExample(t *testing.T) {
	v := Of(1)
	if !v.Take(0, 3, 7) || v.Take(0, 3, 8) {
		t.Error("Take(0, 3, 7), Take(0, 3, 8): not true, false")
	}
	checkGet(t, "behind both", v, 0, 7, true)
	if !v.Ban(0) {
		t.Error("Ban(0): false")
	}
	checkGet(t, "behind Ban", v, 0, 0, false)
}

// P11.1, Of.

func TestOf(t *testing.T) {
	for _, x := range []struct{ n, want int }{
		{math.MinInt, 0},
		{math.MinInt + 1, 0},
		{-4096, 0},
		{-2, 0},
		{-1, 0},
		{0, 0},
		{1, 1},
		{2, 2},
		{3, 3},
		{64, 64},
		{4095, 4095},
		{4096, 4096},
		{4097, 4096},
		{4098, 4096},
		{8192, 4096},
		{1 << 32, 4096},
		{1<<32 + 1, 4096},
		{math.MaxInt, 4096},
	} {
		v := Of(x.n)
		if len(v) != x.want {
			t.Errorf("Of(%d): %d entries, want %d", x.n, len(v), x.want)
		}
		for who, e := range v {
			if e != (Entry{}) {
				t.Errorf("Of(%d): entry %d is %v", x.n, who, e)
			}
		}
	}
}

func TestOfIsNewMemory(t *testing.T) {
	for _, n := range []int{1, 3, 4096, 5000} {
		a, b := Of(n), Of(n)
		for who := range a {
			a.Take(who, 1, 9)
			a.Ban(who)
		}
		for who, e := range b {
			if e != none {
				t.Fatalf("Of(%d): what is done to one changes another one: entry %d is %v", n, who, e)
			}
		}
		if c := Of(n); slices.Contains(c, out(1, 9)) {
			t.Fatalf("Of(%d): what is done to one changes a later one", n)
		}
	}
}

// P11.1, Take: the first vote, of whatever epoch, for whatever block.

func TestTakeTheFirstVote(t *testing.T) {
	for _, epoch := range []int{math.MinInt, math.MinInt + 1, -1 << 32, -2, -1, 0, 1, 2, 64, api.MaxSlot, api.MaxSlot + 1, math.MaxInt} {
		for _, root := range []uint64{0, 1, 2, 1 << 32, 1 << 63, math.MaxUint64} {
			for who := range 3 {
				v := Of(3)
				if !v.Take(who, epoch, root) {
					t.Errorf("Take(%d, %d, %d): false", who, epoch, root)
				}
				check(t, "behind the first vote", v, with(Of(3), who, cast(epoch, root)))
				checkGet(t, "behind the first vote", v, who, root, true)
			}
		}
	}
}

// That there is no vote is told by Has alone.

func TestTakeWhereEntriesAreNotZero(t *testing.T) {
	for _, epoch := range []int{math.MinInt, -1, 0, 4, 5, 6, math.MaxInt} {
		v := Votes{{Epoch: 5, Root: 50}}
		checkGet(t, "without a vote", v, 0, 0, false)
		if !v.Take(0, epoch, 7) {
			t.Errorf("Take of epoch %d by one that has no vote: false", epoch)
		}
		check(t, "behind the first vote", v, Votes{cast(epoch, 7)})
	}
}

// P11.1, Take: the next vote, of an earlier epoch, of the same and of a later one.

func TestTakeTheNextVote(t *testing.T) {
	for _, x := range []struct {
		last, next int
		want       bool
	}{
		{3, 4, true},
		{3, 5, true},
		{3, math.MaxInt, true},
		{3, 3, false},
		{3, 2, false},
		{3, 1, false},
		{3, 0, false},
		{3, -1, false},
		{3, -3, false},
		{3, math.MinInt, false},
		{0, 1, true},
		{0, 0, false},
		{0, -1, false},
		{1, 0, false},
		{-1, 0, true},
		{-1, 1, true},
		{-1, -1, false},
		{-1, -2, false},
		{-2, -1, true},
		{-5, -4, true},
		{-5, 4, true},
		{-5, -6, false},
		{math.MinInt, math.MinInt, false},
		{math.MinInt, math.MinInt + 1, true},
		{math.MinInt, 0, true},
		{math.MinInt, math.MaxInt, true},
		{math.MaxInt, math.MaxInt, false},
		{math.MaxInt, math.MaxInt - 1, false},
		{math.MaxInt, 0, false},
		{math.MaxInt, math.MinInt, false},
		{math.MaxInt - 1, math.MaxInt, true},
		{1<<32 + 1, 2, false},
		{2, 1<<32 + 1, true},
	} {
		for _, roots := range [][2]uint64{{7, 7}, {7, 8}, {8, 7}, {0, 0}, {0, 7}, {7, 0}, {math.MaxUint64, 1}, {1, math.MaxUint64}} {
			v := Of(2)
			v.Take(1, x.last, roots[0])
			if got := v.Take(1, x.next, roots[1]); got != x.want {
				t.Errorf("Take of epoch %d for %d, behind %d for %d: %v, want %v", x.next, roots[1], x.last, roots[0], got, x.want)
			}
			want := cast(x.last, roots[0])
			if x.want {
				want = cast(x.next, roots[1])
			}
			check(t, "behind the next vote", v, Votes{none, want})
			checkGet(t, "behind the next vote", v, 1, want.Root, true)
		}
	}
}

// Each is held against the last one that was taken, not against the first one, nor against one that was not.

func TestTakeOneByOne(t *testing.T) {
	v := Of(1)
	for _, x := range []struct {
		epoch int
		root  uint64
		want  bool
		last  Entry
	}{
		{-2, 1, true, cast(-2, 1)},
		{-2, 2, false, cast(-2, 1)},
		{-3, 3, false, cast(-2, 1)},
		{-1, 4, true, cast(-1, 4)},
		{-2, 1, false, cast(-1, 4)},
		{0, 0, true, cast(0, 0)},
		{0, 5, false, cast(0, 0)},
		{-1, 5, false, cast(0, 0)},
		{4, 6, true, cast(4, 6)},
		{3, 7, false, cast(4, 6)},
		{4, 6, false, cast(4, 6)},
		{4, 9, false, cast(4, 6)},
		{0, 0, false, cast(4, 6)},
		{5, 6, true, cast(5, 6)},
		{9, 0, true, cast(9, 0)},
		{8, 2, false, cast(9, 0)},
		{9, 2, false, cast(9, 0)},
		{10, 2, true, cast(10, 2)},
	} {
		if got := v.Take(0, x.epoch, x.root); got != x.want {
			t.Errorf("Take of epoch %d for %d: %v, want %v", x.epoch, x.root, got, x.want)
		}
		check(t, "behind it", v, Votes{x.last})
		checkGet(t, "behind it", v, 0, x.last.Root, true)
	}
}

// P11.1, Take: not by one that is banned.

func TestTakeByOneThatIsBanned(t *testing.T) {
	for _, e := range []Entry{gone, out(3, 30), out(0, 0), out(-3, 7)} {
		for _, epoch := range []int{math.MinInt, -4, -1, 0, 1, 2, 3, 4, math.MaxInt} {
			for _, root := range []uint64{0, 7, 30, 31} {
				v := Votes{cast(1, 10), e, none}
				if v.Take(1, epoch, root) {
					t.Errorf("Take of epoch %d for %d by %v: true", epoch, root, e)
				}
				check(t, "behind a vote of one that is banned", v, Votes{cast(1, 10), e, none})
			}
		}
	}
}

func TestTakeBehindBan(t *testing.T) {
	v := Of(2)
	v.Take(0, 3, 7)
	v.Ban(0)
	v.Ban(1)
	if v.Take(0, 4, 8) || v.Take(1, 4, 8) {
		t.Error("Take behind Ban: true")
	}
	check(t, "Take behind Ban", v, Votes{out(3, 7), gone})
	checkGet(t, "Take behind Ban", v, 0, 0, false)
	checkGet(t, "Take behind Ban", v, 1, 0, false)
}

// P11.1, numbers that are no validators: Take, Ban and Get answer false, and change nothing.

func TestStrangers(t *testing.T) {
	for _, v := range []Votes{nil, {}, Of(0), Of(1), Of(2), mixed(), Of(api.MaxValidators)} {
		was := slices.Clone(v)
		for _, who := range strangers(len(v)) {
			if who >= 0 && who < len(v) {
				continue
			}
			for _, epoch := range []int{-1, 0, 9, math.MaxInt} {
				if v.Take(who, epoch, 7) {
					t.Errorf("Take by %d of %d: true", who, len(v))
				}
			}
			if v.Ban(who) {
				t.Errorf("Ban of %d of %d: true", who, len(v))
			}
			checkGet(t, "no validator", v, who, 0, false)
		}
		check(t, "behind those that are no validators", v, was)
	}
}

// What lies in memory behind the last entry is no validator's.

func TestStrangersBehindTheLastEntry(t *testing.T) {
	all := Votes{cast(1, 10), cast(2, 20), cast(3, 30), none, cast(5, 50)}
	was := slices.Clone(all)
	v := all[1:2:4]
	for _, who := range []int{-1, 1, 2, 3} {
		if v.Take(who, 9, 7) || v.Ban(who) {
			t.Errorf("Take or Ban of %d of one: true", who)
		}
		checkGet(t, "no validator", v, who, 0, false)
	}
	check(t, "behind them", all, was)
}

// P11.1, the first and the last validator are some, of as many as there may be, and of more that a list has.

func TestTheFirstAndTheLast(t *testing.T) {
	for _, n := range []int{1, 2, 3, 4095, 4096, 4097, 5000} {
		for _, who := range []int{0, n - 1} {
			v := make(Votes, n)
			if !v.Take(who, 2, 6) {
				t.Errorf("Take by %d of %d: false", who, n)
			}
			checkGet(t, "has voted", v, who, 6, true)
			if !v.Ban(who) {
				t.Errorf("Ban of %d of %d: false", who, n)
			}
			checkGet(t, "is banned", v, who, 0, false)
			check(t, "behind all", v, with(make(Votes, n), who, out(2, 6)))
		}
	}
}

// P11.1, Ban: one that has voted, whose vote stays, and one that has not; a second time.

func TestBan(t *testing.T) {
	for _, x := range []struct {
		name string
		e    Entry
		then Entry
	}{
		{"has voted", cast(3, 30), out(3, 30)},
		{"has voted in epoch 0 for 0", cast(0, 0), out(0, 0)},
		{"has voted below 0", cast(-3, math.MaxUint64), out(-3, math.MaxUint64)},
		{"has voted at the greatest epoch", cast(math.MaxInt, 1), out(math.MaxInt, 1)},
		{"has not voted", none, gone},
	} {
		v := Votes{cast(1, 10), x.e, none}
		if !v.Ban(1) {
			t.Errorf("%s: Ban: false", x.name)
		}
		check(t, x.name, v, Votes{cast(1, 10), x.then, none})
		checkGet(t, x.name, v, 1, 0, false)
		for range 3 {
			if v.Ban(1) {
				t.Errorf("%s: Ban a second time: true", x.name)
			}
			check(t, x.name+", a second time", v, Votes{cast(1, 10), x.then, none})
		}
	}
}

func TestBanAll(t *testing.T) {
	v := mixed()
	for who, want := range []bool{true, true, false, false, true} {
		if got := v.Ban(who); got != want {
			t.Errorf("Ban(%d): %v, want %v", who, got, want)
		}
	}
	check(t, "all are banned", v, Votes{gone, out(3, 30), gone, out(4, 40), out(5, 50)})
	for who := range v {
		checkGet(t, "all are banned", v, who, 0, false)
	}
}

// P11.1, Get: of one that has no vote, that has one, and that is banned with one and without one.

func TestGet(t *testing.T) {
	for _, x := range []struct {
		name string
		e    Entry
		root uint64
		has  bool
	}{
		{"no vote", none, 0, false},
		{"no vote, but a root and an epoch", Entry{Epoch: 3, Root: 30}, 0, false},
		{"a vote", cast(3, 30), 30, true},
		{"a vote for 0", cast(3, 0), 0, true},
		{"a vote of epoch 0", cast(0, 30), 30, true},
		{"a vote of epoch 0 for 0", cast(0, 0), 0, true},
		{"a vote below 0", cast(-3, 30), 30, true},
		{"a vote for the greatest root", cast(3, math.MaxUint64), math.MaxUint64, true},
		{"banned with a vote", out(3, 30), 0, false},
		{"banned with a vote for 0", out(0, 0), 0, false},
		{"banned without a vote", gone, 0, false},
		{"banned without a vote, but with a root", Entry{Root: 30, Banned: true}, 0, false},
	} {
		v := Votes{cast(1, 10), x.e, cast(2, 20)}
		for range 2 {
			checkGet(t, x.name, v, 1, x.root, x.has)
		}
		check(t, x.name+": Get changes nothing", v, Votes{cast(1, 10), x.e, cast(2, 20)})
	}
}

// P11.1, what is done to one validator changes nothing of another one.

func TestOneByItself(t *testing.T) {
	for who := range mixed() {
		for other := range mixed() {
			v := mixed()
			v.Take(who, 9, 90)
			v.Ban(who)
			v.Take(who, 10, 91)
			v.Get(who)
			if other != who && v[other] != mixed()[other] {
				t.Errorf("what is done to %d makes %d %v", who, other, v[other])
			}
		}
	}
}

// Nor if both have voted alike.
func TestOneByItselfOfThoseWhoVoteAlike(t *testing.T) {
	for _, e := range []Entry{none, cast(3, 30), cast(0, 0)} {
		alike := Votes{e, e, e, e}
		for who := range alike {
			v := slices.Clone(alike)
			if !v.Take(who, 4, 40) {
				t.Errorf("Take by %d of %v: false", who, alike)
			}
			check(t, "behind Take by one", v, with(alike, who, cast(4, 40)))
			v = slices.Clone(alike)
			if !v.Ban(who) {
				t.Errorf("Ban(%d) of %v: false", who, alike)
			}
			banned := e
			banned.Banned = true
			check(t, "behind Ban of one", v, with(alike, who, banned))
		}
	}
}

func TestEachHasItsOwnVote(t *testing.T) {
	v := Of(api.MaxValidators)
	for who := range v {
		if !v.Take(who, who%7-3, uint64(who)*3) {
			t.Fatalf("Take by %d: false", who)
		}
	}
	for who := range v {
		if who%3 == 0 && !v.Ban(who) {
			t.Fatalf("Ban(%d): false", who)
		}
	}
	for who, e := range v {
		want := cast(who%7-3, uint64(who)*3)
		if want.Banned = who%3 == 0; e != want {
			t.Fatalf("entry %d: %v, want %v", who, e, want)
		}
		if want.Banned {
			want.Root = 0
		}
		checkGet(t, "each by itself", v, who, want.Root, !want.Banned)
	}
}
