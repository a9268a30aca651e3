package store

import (
	"maps"
	"reflect"
	"slices"
	"testing"

	"psephos/api"
	"psephos/justify"
	"psephos/ledger"
	"psephos/viable"
)

// P14.5. What no chain of blocks would bring about by itself is laid into a ledger.

// brook is at slot 10 of epoch 0, of 64 slots an epoch, with the blocks 2 on 1 at 1, 3 on 2 at 2, 4 on 3 at 3, and beside them 5 on 1 at 1, 6 on 5 at 2, 9 on 3 at 3.
func brook(t *testing.T) *Store {
	t.Helper()
	return open(t, of(64, 10, 10, 10), tick(10), block(2, 1, 1), block(3, 2, 2), block(4, 3, 3), block(5, 1, 1), block(6, 5, 2), block(9, 3, 3))
}

// tell has what is justified and final by a block's ledger be these: a block on it tells them.
func tell(s *Store, root uint64, justified, final api.Point) {
	r := s.records[root]
	r.ledger.Justify = justify.State{Previous: origin(), Current: justified, Final: final}
	s.records[root] = r
}

// raised is a brook of which something is justified and final already.
func raised(t *testing.T, justified, final api.Point) *Store {
	t.Helper()
	s := brook(t)
	tell(s, 1, justified, final)
	feed(t, s, block(70, 1, 4))
	checkPoints(t, "raised", s, justified, final)
	return s
}

func TestRaiseJustified(t *testing.T) {
	for _, x := range []struct {
		name           string
		was, next, now api.Point
	}{
		{"later, above", point(5, 2), point(6, 3), point(6, 3)},
		{"much later, on another branch", point(5, 2), point(900, 6), point(900, 6)},
		{"later, below", point(5, 3), point(6, 1), point(6, 1)},
		{"later, the same block", point(5, 3), point(6, 3), point(6, 3)},
		{"of the same epoch", point(5, 3), point(5, 4), point(5, 3)},
		{"the same", point(5, 3), point(5, 3), point(5, 3)},
		{"earlier", point(5, 3), point(4, 4), point(5, 3)},
		{"of epoch 0", point(5, 3), point(0, 1), point(5, 3)},
		{"later, not there", point(5, 3), point(6, 99), point(5, 3)},
		{"later, 0", point(5, 3), point(6, 0), point(5, 3)},
	} {
		s := raised(t, x.was, origin())
		tell(s, 4, x.next, origin())
		want := slices.Concat(s.Tree.Roots(), []uint64{71})
		checkDone(t, x.name, s, block(71, 4, 9), added(71, 4))
		checkPoints(t, x.name, s, x.now, origin())
		checkRoots(t, x.name, s, want...)
	}
}

// What is justified must be Below what is final: to be there is to be so, as all else is cut off.
func TestRaiseJustifiedWhereSomethingIsFinal(t *testing.T) {
	for _, x := range []struct {
		name string
		root uint64
		yes  bool
	}{
		{"what is final", 2, true},
		{"on it", 3, true},
		{"on it, beside", 9, true},
		{"below it", 1, false},
		{"beside it", 5, false},
		{"on another branch", 6, false},
	} {
		s := raised(t, point(5, 3), origin())
		tell(s, 4, point(5, 3), point(4, 2))
		checkDone(t, "2 is final", s, block(71, 4, 9), added(71, 4), cutTo(2))
		tell(s, 4, point(6, x.root), point(4, 2))
		feed(t, s, block(72, 4, 9))
		want := point(5, 3)
		if x.yes {
			want = point(6, x.root)
		}
		checkPoints(t, x.name, s, want, point(4, 2))
	}
}

// Where the tree has more than what is final, as no event has it, both must be Below that.
func TestRaiseNeedsWhatIsFinal(t *testing.T) {
	s := brook(t)
	s.Final = point(4, 2)
	for _, root := range []uint64{1, 5, 6, 99} {
		if got := s.raise(point(6, root), point(0, 1)); got != nil || s.Justified != origin() {
			t.Errorf("justified %d: %v, %v", root, got, s.Justified)
		}
	}
	s.Justified = point(5, 4)
	for _, justified := range []uint64{1, 3, 99} {
		for _, root := range []uint64{1, 5, 6, 99} {
			if got := s.raise(point(0, justified), point(5, root)); got != nil || s.Final != point(4, 2) {
				t.Errorf("final %d: %v, %v", root, got, s.Final)
			}
		}
	}
	if got := s.raise(point(6, 3), point(5, 2)); !slices.Equal(got, []Change{cutTo(2)}) || s.Justified != point(6, 3) || s.Final != point(5, 2) {
		t.Errorf("%v, %v, %v", got, s.Justified, s.Final)
	}
}

func TestRaiseFinal(t *testing.T) {
	all := []uint64{1, 2, 3, 4, 5, 6, 9, 70, 71}
	for _, x := range []struct {
		name             string
		justified, final api.Point
		left             []uint64
		is               bool
	}{
		{"later, the first one", point(6, 4), point(1, 1), all, true},
		{"later, 2", point(6, 4), point(1, 2), []uint64{2, 3, 4, 9, 71}, true},
		{"later, 3", point(6, 4), point(5, 3), []uint64{3, 4, 9, 71}, true},
		{"later, what is justified", point(6, 4), point(5, 4), []uint64{4, 71}, true},
		{"later, and of what is justified's epoch", point(6, 4), point(6, 3), []uint64{3, 4, 9, 71}, true},
		{"later, and than what is justified", point(6, 4), point(7, 3), []uint64{3, 4, 9, 71}, true},
		{"later, beside what is justified", point(6, 4), point(5, 9), all, false},
		{"later, on what is justified", point(6, 3), point(5, 4), all, false},
		{"later, on another branch", point(6, 4), point(5, 6), all, false},
		{"later, below what was justified, beside what is", point(6, 6), point(5, 3), all, false},
		{"later, below what was justified, which is later", point(4, 6), point(3, 3), []uint64{3, 4, 9, 71}, true},
		{"later, below what is told, which is earlier than what is", point(4, 6), point(3, 5), all, false},
		{"later, while what is justified is told as one that is not there", point(6, 99), point(5, 3), []uint64{3, 4, 9, 71}, true},
		{"later, not there", point(6, 4), point(5, 99), all, false},
		{"later, 0", point(6, 4), point(5, 0), all, false},
		{"of the same epoch", point(6, 4), point(0, 3), all, false},
		{"the same", point(6, 4), point(0, 1), all, false},
		{"earlier", point(6, 4), point(-1, 3), all, false},
	} {
		s := raised(t, point(5, 4), origin())
		tell(s, 4, x.justified, x.final)
		justified, final, want := point(5, 4), origin(), []Change{added(71, 4)}
		if x.justified.Epoch > 5 && x.justified.Root != 99 {
			justified = x.justified
		}
		if x.is {
			final, want = x.final, append(want, cutTo(x.final.Root))
		}
		checkDone(t, x.name, s, block(71, 4, 9), want...)
		checkPoints(t, x.name, s, justified, final)
		checkRoots(t, x.name, s, x.left...)
		var gone []uint64
		for _, root := range all {
			if !slices.Contains(x.left, root) {
				gone = append(gone, root)
			}
		}
		if got := slices.Sorted(maps.Keys(s.gone)); !slices.Equal(got, gone) {
			t.Errorf("%s: gone %v, want %v", x.name, got, gone)
		}
	}
}

func TestRaiseFinalWhereSomethingIs(t *testing.T) {
	for _, x := range []struct {
		name  string
		final api.Point
		left  []uint64
		is    bool
	}{
		{"later, on it", point(5, 3), []uint64{3, 4, 9, 72}, true},
		{"later, the same block", point(5, 2), []uint64{2, 3, 4, 9, 71, 72}, true},
		{"of the same epoch", point(4, 3), []uint64{2, 3, 4, 9, 71, 72}, false},
		{"the same", point(4, 2), []uint64{2, 3, 4, 9, 71, 72}, false},
		{"earlier", point(3, 3), []uint64{2, 3, 4, 9, 71, 72}, false},
		{"later, below it", point(5, 1), []uint64{2, 3, 4, 9, 71, 72}, false},
		{"later, beside it", point(5, 5), []uint64{2, 3, 4, 9, 71, 72}, false},
	} {
		s := raised(t, point(5, 4), origin())
		tell(s, 2, point(5, 4), point(4, 2))
		checkDone(t, "2 is final", s, block(71, 2, 9), added(71, 2), cutTo(2))
		tell(s, 4, point(6, 4), x.final)
		final, want := point(4, 2), []Change{added(72, 4)}
		if x.is {
			final, want = x.final, append(want, cutTo(x.final.Root))
		}
		checkDone(t, x.name, s, block(72, 4, 9), want...)
		checkPoints(t, x.name, s, point(6, 4), final)
		checkRoots(t, x.name, s, x.left...)
	}
}

// What is justified is raised ahead of what is final, which is asked of the former.
func TestRaiseJustifiedAheadOfFinal(t *testing.T) {
	s := raised(t, point(5, 6), origin())
	tell(s, 4, point(6, 4), point(5, 3))
	checkDone(t, "away from another branch", s, block(71, 4, 9), added(71, 4), cutTo(3))
	checkPoints(t, "away from another branch", s, point(6, 4), point(5, 3))
}

// One that is cut off at once by what its ledger tells: no ledger of a chain tells such a thing of its own block.
func TestRaiseCutsOffTheBlockItself(t *testing.T) {
	s := brook(t)
	tell(s, 6, point(5, 4), point(4, 3))
	e := with(block(71, 6, 10, cast(9, 6, origin(), origin(), 0)), api.Proof{A: cast(9, 6, origin(), origin(), 1), B: cast(9, 4, origin(), origin(), 1)})
	checkDone(t, "cut off at once", s, e, added(71, 6), first(0, 6), silent(1), cutTo(3))
	checkRoots(t, "cut off at once", s, 3, 4, 9)
	checkBoosted(t, "cut off at once", s, 0)
	checkPoints(t, "cut off at once", s, point(5, 4), point(4, 3))
	checkFails(t, "again", s, e, api.ErrTwice)
	checkFails(t, "again, elsewhere", s, block(71, 4, 10), api.ErrTwice)
	checkFails(t, "on it", s, block(72, 71, 10), api.ErrParent)
	checkDone(t, "another one is boosted then", s, block(72, 4, 10), added(72, 4))
	checkBoosted(t, "another one is boosted then", s, 72)
	// The same, of an earlier epoch: what Pull tells is not of what is final any more.
	s = brook(t)
	feed(t, s, tick(70))
	tell(s, 6, point(5, 4), point(4, 3))
	checkDone(t, "cut off at once, of an earlier epoch", s, block(71, 6, 10), added(71, 6), cutTo(3))
	checkPoints(t, "cut off at once, of an earlier epoch", s, point(5, 4), point(4, 3))
}

func TestRaiseAndWhatIsBoosted(t *testing.T) {
	for _, x := range []struct {
		name   string
		parent uint64
		final  uint64
		want   uint64
	}{
		{"it stays", 4, 3, 80},
		{"it stays, on what is final", 3, 3, 80},
		{"it stays, as nothing is cut off", 6, 1, 80},
		{"it is cut off, on another branch", 6, 3, 0},
		{"it is cut off, on the first one", 1, 2, 0},
		{"it is cut off, beside what is final", 3, 4, 0},
	} {
		s := brook(t)
		feed(t, s, block(80, x.parent, 10))
		checkBoosted(t, "ahead of it", s, 80)
		tell(s, 4, point(5, 4), point(4, x.final))
		checkDone(t, x.name, s, block(71, 4, 10), added(71, 4), cutTo(x.final))
		checkBoosted(t, x.name, s, x.want)
		// Where nothing is boosted, the next one is.
		feed(t, s, block(72, 4, 10))
		if x.want == 0 {
			checkBoosted(t, x.name, s, 72)
		} else {
			checkBoosted(t, x.name, s, 80)
		}
	}
	// The block itself is boosted, and stays.
	s := brook(t)
	tell(s, 4, point(5, 4), point(4, 4))
	checkDone(t, "the block itself", s, block(71, 4, 10), added(71, 4), cutTo(4))
	checkBoosted(t, "the block itself", s, 71)
	// Nothing is boosted, and nothing is then.
	s = brook(t)
	tell(s, 4, point(5, 4), point(4, 4))
	checkDone(t, "nothing", s, block(71, 4, 9), added(71, 4), cutTo(4))
	checkBoosted(t, "nothing", s, 0)
}

// The same by whole chains.

func TestFinalCutsOffWhatIsBoosted(t *testing.T) {
	s := steady(t, 12)
	feed(t, s, tick(16), block(216, 1, 16))
	checkBoosted(t, "ahead of it", s, 216)
	checkDone(t, "at slot 16", s, next(16), added(116, 112), moved(0, 112, 116), moved(1, 112, 116), cutTo(108))
	checkBoosted(t, "at slot 16", s, 0)
	checkDone(t, "the next one", s, block(316, 112, 16), added(316, 112))
	checkBoosted(t, "the next one", s, 316)
}

// Two quorums that say unlike things: a final point below which what is justified is not.
func TestFinalBelowWhichWhatIsJustifiedIsNot(t *testing.T) {
	s := steady(t, 12)
	checkPoints(t, "one branch", s, point(2, 108), origin())
	feed(t, s, tick(24), block(220, 1, 20, cast(20, 220, origin(), point(5, 220), 1, 2)))
	checkPoints(t, "another branch", s, point(5, 220), origin())
	checkDone(t, "108 would be final", s, next(16), added(116, 112), moved(0, 112, 116))
	checkPoints(t, "108 would be final", s, point(5, 220), origin())
	checkRoots(t, "108 would be final", s, 1, 104, 108, 112, 116, 220)
	checkFails(t, "it is there still", s, block(104, 1, 4), api.ErrTwice)
	// As soon as something later is justified there, it is.
	feed(t, s, tick(28), block(124, 116, 24, cast(24, 124, point(4, 116), point(6, 124), 0, 1)))
	checkPoints(t, "a later epoch", s, point(6, 124), point(3, 112))
	checkRoots(t, "a later epoch", s, 112, 116, 124)
}

// The same block may be final again, for a later epoch: nothing is cut off, but it is told.
func TestFinalOfTheSameBlock(t *testing.T) {
	s := open(t, of(4, 10), tick(9))
	feed(t, s, block(2, 1, 9, cast(9, 2, origin(), point(2, 1), 0)), tick(13))
	checkPoints(t, "epoch 2", s, origin(), origin())
	feed(t, s, block(3, 2, 13, cast(13, 3, point(2, 1), point(3, 2), 0)), tick(17))
	checkPoints(t, "epoch 3", s, point(2, 1), origin())
	checkDone(t, "epoch 4", s, block(4, 3, 17), added(4, 3), cutTo(1))
	checkPoints(t, "epoch 4", s, point(3, 2), point(2, 1))
	checkRoots(t, "epoch 4", s, 1, 2, 3, 4)
	if len(s.gone) != 0 {
		t.Errorf("gone: %v", s.gone)
	}
}

// P14.6.

func checkView(t *testing.T, name string, s *Store, want viable.View) {
	t.Helper()
	if got := s.View(); !reflect.DeepEqual(got, want) {
		t.Errorf("%s: View %+v, want %+v", name, got, want)
	}
}

func checkSources(t *testing.T, name string, s *Store, want map[uint64]int) {
	t.Helper()
	checkView(t, name, s, viable.View{Justified: s.Justified, Final: s.Final, Epoch: s.Slot / s.Config.Slots, Sources: want})
}

func TestViewOfAChain(t *testing.T) {
	s := open(t, of(4, 10, 10, 10))
	view := func(epoch int, justified, final api.Point, sources map[uint64]int) {
		t.Helper()
		checkView(t, "a chain", s, viable.View{Justified: justified, Final: final, Epoch: epoch, Sources: sources})
	}
	view(0, origin(), origin(), map[uint64]int{1: 0})
	feed(t, s, tick(4), next(4))
	view(1, origin(), origin(), map[uint64]int{1: 0, 104: 0})
	feed(t, s, tick(8), next(8))
	view(2, origin(), origin(), map[uint64]int{1: 0, 104: 0, 108: 0})
	feed(t, s, tick(11))
	view(2, origin(), origin(), map[uint64]int{1: 0, 104: 0, 108: 0})
	// The tick has 108 be of an earlier epoch: its own votes count by then.
	feed(t, s, tick(12))
	view(3, origin(), origin(), map[uint64]int{1: 0, 104: 0, 108: 2})
	feed(t, s, next(12))
	view(3, point(2, 108), origin(), map[uint64]int{1: 0, 104: 0, 108: 2, 112: 2})
	feed(t, s, tick(15))
	view(3, point(2, 108), origin(), map[uint64]int{1: 0, 104: 0, 108: 2, 112: 2})
	feed(t, s, tick(16))
	view(4, point(2, 108), origin(), map[uint64]int{1: 0, 104: 0, 108: 2, 112: 3})
	feed(t, s, next(16))
	view(4, point(3, 112), point(2, 108), map[uint64]int{108: 2, 112: 3, 116: 3})
	feed(t, s, tick(20))
	view(5, point(3, 112), point(2, 108), map[uint64]int{108: 2, 112: 3, 116: 4})
	feed(t, s, tick(900))
	view(225, point(3, 112), point(2, 108), map[uint64]int{108: 2, 112: 3, 116: 4})
}

// A block that stays behind has what its own votes justify, those on it what theirs do.
func TestViewOfBranches(t *testing.T) {
	s := steady(t, 8)
	feed(t, s, block(20, 104, 8), tick(9))
	feed(t, s, block(21, 20, 9, cast(9, 21, origin(), point(2, 20), 1, 2)), block(22, 108, 9), block(23, 108, 9, cast(9, 108, origin(), point(2, 108), 2)))
	checkSources(t, "ahead of the tick", s, map[uint64]int{1: 0, 104: 0, 108: 0, 20: 0, 21: 0, 22: 0, 23: 0})
	feed(t, s, tick(12))
	checkSources(t, "behind the tick", s, map[uint64]int{1: 0, 104: 0, 108: 2, 20: 0, 21: 2, 22: 2, 23: 2})
	// Those at a later epoch have it by their ledgers, but not what they bring.
	feed(t, s, block(30, 20, 12), block(31, 21, 12), block(32, 22, 12, cast(12, 32, point(2, 108), point(3, 32), 0, 1)))
	checkSources(t, "in the next epoch", s, map[uint64]int{1: 0, 104: 0, 108: 2, 20: 0, 21: 2, 22: 2, 23: 2, 30: 0, 31: 2, 32: 2})
	feed(t, s, tick(16))
	checkSources(t, "behind the next tick", s, map[uint64]int{1: 0, 104: 0, 108: 2, 20: 0, 21: 2, 22: 2, 23: 2, 30: 0, 31: 2, 32: 3})
	// Of a block that comes late it is so at once: and as that has 20 be final, the other branch is no longer told.
	checkDone(t, "a block that comes late", s, block(33, 31, 13, cast(13, 33, point(2, 20), point(3, 31), 1, 2)), added(33, 31), moved(2, 21, 33), cutTo(20))
	checkSources(t, "a block that comes late", s, map[uint64]int{20: 0, 21: 2, 30: 0, 31: 2, 33: 3})
}

// Neither votes by themselves nor proofs say what a block has.
func TestViewBehindVotesAndProofs(t *testing.T) {
	s := steady(t, 8)
	feed(t, s, tick(11), attest(cast(8, 108, origin(), point(2, 108), 2)))
	want := map[uint64]int{1: 0, 104: 0, 108: 0}
	checkSources(t, "a vote", s, want)
	feed(t, s, prove(cast(3, 9, origin(), origin(), 0, 1, 2), cast(3, 8, origin(), origin(), 0, 1, 2)))
	checkSources(t, "a proof", s, want)
	feed(t, s, tick(12))
	want[108] = 2
	checkSources(t, "a tick", s, want)
}

func TestViewOfSources(t *testing.T) {
	// What a ledger has, and what Pull has, told apart: epoch 7 is justified, and 9 would be.
	s := brook(t)
	feed(t, s, tick(64*9+5))
	state := ledger.State{Justify: justify.State{Current: point(7, 2)}, Epoch: 9, Before: yes("nnn"), Now: yes("yyn")}
	s.records[2] = record{state, 9}
	feed(t, s, block(71, 2, 64*9+4))
	got := s.View().Sources
	if got[2] != 9 || got[71] != 7 {
		t.Errorf("Sources %v", got)
	}
	feed(t, s, tick(64*10))
	if got := s.View().Sources; got[2] != 9 || got[71] != 9 {
		t.Errorf("behind the tick: Sources %v", got)
	}
}

func TestViewIsNewMemory(t *testing.T) {
	s := steady(t, 16)
	a, b := s.View(), s.View()
	was := look(s)
	clear(a.Sources)
	a.Sources[77] = 5
	if !maps.Equal(b.Sources, map[uint64]int{108: 2, 112: 3, 116: 3}) || !reflect.DeepEqual(s.View(), b) {
		t.Errorf("behind a change of an answer: %v, %v", b.Sources, s.View().Sources)
	}
	if !reflect.DeepEqual(look(s), was) {
		t.Errorf("behind View: %+v, want %+v", look(s), was)
	}
	// And what comes later does not come to an answer.
	feed(t, s, tick(20), next(20))
	if len(b.Sources) != 3 || b.Epoch != 4 {
		t.Errorf("behind later events: %+v", b)
	}
}
