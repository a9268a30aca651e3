package store

import (
	"math"
	"reflect"
	"slices"
	"testing"

	"psephos/api"
	"psephos/justify"
	"psephos/latest"
	"psephos/ledger"
)

// next is the block of a chain that has one at the start of each epoch of four slots; from epoch 2 on two of three vote for it in it.
func next(slot int) api.Event {
	root, parent, e := uint64(100+slot), uint64(100+slot-4), slot/4
	source := point(e-1, parent)
	if e == 1 {
		return block(root, Genesis, slot)
	}
	if e == 2 {
		source = origin()
	}
	return block(root, parent, slot, cast(slot, root, source, point(e, root), 0, 1))
}

// steady is a store at a slot that begins an epoch, with such a chain of blocks up to it, each of which came at its slot. At slot 16 epoch 3 is justified, epoch 2 is final, and 1 and 104 are cut off.
func steady(t *testing.T, to int) *Store {
	t.Helper()
	s := open(t, of(4, 10, 10, 10))
	for slot := 4; slot <= to; slot += 4 {
		feed(t, s, tick(slot), next(slot))
	}
	return s
}

// cropped is a steady store at slot 17, where 7 on 1 is cut off, too: 108, 112 and 116 are there.
func cropped(t *testing.T) *Store {
	t.Helper()
	s := steady(t, 12)
	feed(t, s, block(7, 1, 6), tick(16), next(16), tick(17))
	checkRoots(t, "cropped", s, 108, 112, 116)
	return s
}

// filled is a cropped store that has as many blocks as there may be: those from 1000 on stand on 116.
func filled(t *testing.T) *Store {
	t.Helper()
	s := cropped(t)
	for root := uint64(1000); s.Tree.Len() < api.MaxBlocks; root++ {
		feed(t, s, block(root, 116, 17))
	}
	return s
}

// votesOf are so many votes for the first block at slot 1, of a validator each.
func votesOf(n int) []api.Vote {
	var vs []api.Vote
	for who := range n {
		vs = append(vs, cast(1, 1, origin(), origin(), who))
	}
	return vs
}

// proofsOf are so many proofs, each of which shows one validator.
func proofsOf(n int) []api.Proof {
	var ps []api.Proof
	for who := range n {
		ps = append(ps, api.Proof{A: cast(1, 1, origin(), origin(), who), B: cast(2, 1, origin(), origin(), who)})
	}
	return ps
}

// P14.4, a block.

func TestBlock(t *testing.T) {
	s := open(t, of(4, 10), tick(9))
	for _, x := range []struct {
		root, parent uint64
		slot         int
	}{{5, 1, 3}, {4, 5, 4}, {math.MaxUint64, 4, 9}, {2, 1, 9}, {1 << 63, 1, 1}} {
		want := look(s)
		checkDone(t, "a block", s, block(x.root, x.parent, x.slot), added(x.root, x.parent))
		got := look(s)
		if parent, slot, _, ok := s.Tree.Get(x.root); parent != x.parent || slot != x.slot || !ok {
			t.Errorf("%d: on %d, at %d, %v", x.root, parent, slot, ok)
		}
		if got.slot != want.slot || !slices.Equal(got.votes, want.votes) || got.justified != want.justified || got.final != want.final {
			t.Errorf("behind %d: %+v, ahead of it %+v", x.root, got, want)
		}
		if len(got.blocks) != len(want.blocks)+1 {
			t.Errorf("behind %d: blocks %v", x.root, s.Tree.Roots())
		}
	}
}

// Each error of a block by itself.

func TestBlockOfLaterSlots(t *testing.T) {
	s := cropped(t)
	for _, slot := range []int{18, 19, 20, 1 << 32, api.MaxSlot, api.MaxSlot + 1, math.MaxInt} {
		checkFails(t, "a later slot", s, block(300, 116, slot), api.ErrFuture)
	}
	checkDone(t, "the slot that it is", s, block(300, 116, 17), added(300, 116))
	s = open(t, of(4, 10))
	checkFails(t, "at the beginning", s, block(2, 1, 1), api.ErrFuture)
	checkFails(t, "at the beginning", s, block(2, 1, 0), api.ErrSlot)
}

func TestBlockOfRootZero(t *testing.T) {
	s := cropped(t)
	for _, slot := range []int{13, 16, 17} {
		checkFails(t, "root 0", s, block(0, 112, slot), api.ErrArgument)
	}
	checkFails(t, "root 0", open(t, of(4, 10), tick(4)), block(0, 1, 4), api.ErrArgument)
}

func TestBlockOfTooManyParts(t *testing.T) {
	for _, x := range []struct {
		votes, proofs int
		want          api.Errno
	}{
		{16, 0, 0},
		{0, 16, 0},
		{16, 16, 0},
		{17, 0, api.ErrFull},
		{0, 17, api.ErrFull},
		{17, 17, api.ErrFull},
		{16, 17, api.ErrFull},
		{17, 16, api.ErrFull},
		{1000, 0, api.ErrFull},
		{0, 1000, api.ErrFull},
	} {
		s := open(t, of(4, many(20, 10)...), tick(3))
		e := with(block(2, 1, 3, votesOf(x.votes)...), proofsOf(x.proofs)...)
		if x.want != 0 {
			checkFails(t, "too many", s, e, x.want)
			continue
		}
		// Each is taken, up to the last one.
		want := []Change{added(2, 1)}
		for who := range x.votes {
			want = append(want, first(who, 1))
		}
		for who := range x.proofs {
			if x.votes > 0 {
				want = append(want, banned(who, 1))
			} else {
				want = append(want, silent(who))
			}
		}
		checkDone(t, "as many as may be", s, e, want...)
	}
	// Parts that are wrong count as well.
	s := open(t, of(4, 10), tick(3))
	checkFails(t, "17 votes of nothing", s, block(2, 1, 3, make([]api.Vote, 17)...), api.ErrFull)
	checkFails(t, "17 proofs of nothing", s, with(block(2, 1, 3), make([]api.Proof, 17)...), api.ErrFull)
	checkDone(t, "16 of nothing", s, with(block(2, 1, 3, make([]api.Vote, 16)...), make([]api.Proof, 16)...), added(2, 1))
}

func TestBlockThatWasCutOff(t *testing.T) {
	s := cropped(t)
	for _, x := range []struct {
		name string
		e    api.Event
	}{
		{"the first one, as it was", block(1, 1, 0)},
		{"the first one, elsewhere", block(1, 116, 17)},
		{"104, at its old place", block(104, 1, 4)},
		{"104, elsewhere", block(104, 108, 10)},
		{"104, on the last one", block(104, 116, 17)},
		{"7, at its old place", block(7, 1, 6)},
		{"7, elsewhere", block(7, 112, 14)},
		{"7, with votes", block(7, 116, 17, cast(17, 116, point(3, 112), point(4, 116), 2))},
	} {
		checkFails(t, x.name, s, x.e, api.ErrTwice)
	}
	// It is so for good.
	feed(t, s, tick(20), next(20))
	checkRoots(t, "behind another Cut", s, 112, 116, 120)
	for _, root := range []uint64{1, 7, 104, 108} {
		checkFails(t, "cut off at either time", s, block(root, 116, 19), api.ErrTwice)
	}
	// And of another store they say nothing.
	feed(t, open(t, of(4, 10), tick(9)), block(104, 1, 4), block(7, 104, 6))
}

func TestBlockOfTheTreesErrors(t *testing.T) {
	s := cropped(t)
	for _, root := range []uint64{108, 112, 116} {
		checkFails(t, "it is there", s, block(root, 116, 17), api.ErrTwice)
		checkFails(t, "it is there", s, block(root, 112, 13), api.ErrTwice)
	}
	for _, parent := range []uint64{0, 1, 7, 104, 300, 999, math.MaxUint64} {
		checkFails(t, "no such parent", s, block(300, parent, 17), api.ErrParent)
	}
	for _, slot := range []int{16, 15, 12, 0, -1, math.MinInt} {
		checkFails(t, "not behind its parent", s, block(300, 116, slot), api.ErrSlot)
	}
	checkFails(t, "no room", filled(t), block(300, 116, 17), api.ErrFull)
	checkDone(t, "there is room", s, block(300, 116, 17), added(300, 116))
}

// Two errors of a block at once: the one that is named first.
func TestBlockOfTwoErrors(t *testing.T) {
	tooMany := func(e api.Event) api.Event {
		e.Block.Votes = make([]api.Vote, 17)
		return e
	}
	proofs := func(e api.Event) api.Event { return with(e, make([]api.Proof, 17)...) }
	s, full := cropped(t), filled(t)
	for _, x := range []struct {
		name string
		s    *Store
		e    api.Event
		want api.Errno
	}{
		{"later, root 0", s, block(0, 116, 18), api.ErrFuture},
		{"later, too many votes", s, tooMany(block(300, 116, 18)), api.ErrFuture},
		{"later, too many proofs", s, proofs(block(300, 116, 18)), api.ErrFuture},
		{"later, cut off", s, block(104, 116, 18), api.ErrFuture},
		{"later, there", s, block(112, 116, 18), api.ErrFuture},
		{"later, no parent", s, block(300, 999, 18), api.ErrFuture},
		{"later, no room", full, block(300, 116, 18), api.ErrFuture},
		{"root 0, too many votes", s, tooMany(block(0, 116, 17)), api.ErrArgument},
		{"root 0, too many proofs", s, proofs(block(0, 116, 17)), api.ErrArgument},
		{"root 0, no parent", s, block(0, 999, 17), api.ErrArgument},
		{"root 0, on itself", s, block(0, 0, 17), api.ErrArgument},
		{"root 0, not behind its parent", s, block(0, 116, 16), api.ErrArgument},
		{"root 0, no room", full, block(0, 116, 17), api.ErrArgument},
		{"too many votes, cut off", s, tooMany(block(104, 116, 17)), api.ErrFull},
		{"too many proofs, cut off", s, proofs(block(104, 116, 17)), api.ErrFull},
		{"too many votes, there", s, tooMany(block(112, 116, 17)), api.ErrFull},
		{"too many proofs, there", s, proofs(block(112, 116, 17)), api.ErrFull},
		{"too many votes, no parent", s, tooMany(block(300, 999, 17)), api.ErrFull},
		{"too many proofs, no parent", s, proofs(block(300, 999, 17)), api.ErrFull},
		{"too many votes, not behind its parent", s, tooMany(block(300, 116, 16)), api.ErrFull},
		{"too many proofs, not behind its parent", s, proofs(block(300, 116, 16)), api.ErrFull},
		{"cut off, no parent", s, block(104, 999, 17), api.ErrTwice},
		{"cut off, a parent that was cut off", s, block(104, 1, 17), api.ErrTwice},
		{"cut off, not behind its parent", s, block(104, 116, 16), api.ErrTwice},
		{"cut off, no room", full, block(104, 116, 17), api.ErrTwice},
		{"there, no parent", s, block(112, 999, 17), api.ErrTwice},
		{"there, not behind its parent", s, block(112, 116, 16), api.ErrTwice},
		{"there, no room", full, block(112, 116, 17), api.ErrTwice},
		{"no parent, a slot below 0", s, block(300, 999, -1), api.ErrParent},
		{"no parent, no room", full, block(300, 999, 17), api.ErrParent},
		{"not behind its parent, no room", full, block(300, 116, 16), api.ErrSlot},
	} {
		checkFails(t, x.name, x.s, x.e, x.want)
	}
}

// A block that is not taken leaves its votes and proofs behind.
func TestBlockThatIsNotTaken(t *testing.T) {
	s := open(t, of(4, 10, 10), tick(3), block(2, 1, 2))
	good := with(block(3, 2, 3, votesOf(2)...), proofsOf(1)...)
	for _, x := range []struct {
		change func(b *api.Block)
		want   api.Errno
	}{
		{func(b *api.Block) { b.Slot = 4 }, api.ErrFuture},
		{func(b *api.Block) { b.Root = 0 }, api.ErrArgument},
		{func(b *api.Block) { b.Proofs = proofsOf(17) }, api.ErrFull},
		{func(b *api.Block) { b.Root = 2 }, api.ErrTwice},
		{func(b *api.Block) { b.Parent = 9 }, api.ErrParent},
		{func(b *api.Block) { b.Slot = 2 }, api.ErrSlot},
	} {
		e := good
		x.change(&e.Block)
		checkFails(t, "a block that is wrong", s, e, x.want)
	}
	checkDone(t, "a good one", s, good, added(3, 2), first(0, 1), first(1, 1), banned(0, 1))
}

// P14.4, a block's votes, and then its proofs.

func TestBlockWithVotesAndProofs(t *testing.T) {
	s := grove(t)
	feed(t, s, attest(cast(9, 5, origin(), point(2, 2), 3)))
	a, b := fork([]int{0, 3}, []int{0, 3})
	c, d := fork([]int{1, 3}, []int{1, 2, 3})
	e := with(block(50, 6, 14,
		cast(9, 5, origin(), point(2, 2), 0, 1),
		cast(13, 6, origin(), point(3, 4), 1, 2, 3),
		cast(13, 4, origin(), point(3, 4), 2),
		cast(14, 50, origin(), point(3, 4), 0),
	), api.Proof{A: a, B: b}, api.Proof{A: c, B: d})
	checkDone(t, "votes and proofs", s, e,
		added(50, 6),
		first(0, 5), first(1, 5),
		moved(1, 5, 6), first(2, 6), moved(3, 5, 6),
		moved(0, 5, 50),
		banned(0, 50), banned(3, 6),
		banned(1, 6),
	)
}

func TestBlockWithPartsThatAreWrong(t *testing.T) {
	s := grove(t)
	a, b := fork([]int{0, 2}, []int{2})
	e := with(block(50, 6, 14,
		cast(13, 6, origin(), point(3, 4)),
		cast(15, 6, origin(), point(3, 4), 0),
		cast(13, 99, origin(), point(3, 4), 0),
		cast(13, 5, origin(), point(3, 4), 0),
		cast(13, 6, origin(), point(3, 4), 1),
		cast(12, 6, origin(), point(3, 4), 0),
		cast(13, 6, origin(), point(3, 5), 0),
		cast(13, 4, origin(), point(3, 4), 3),
	), api.Proof{A: a, B: a}, api.Proof{A: a, B: b}, api.Proof{})
	checkDone(t, "parts that are wrong", s, e, added(50, 6), first(1, 6), first(3, 4), silent(2))
	if s.Votes[0] != (latest.Entry{}) {
		t.Errorf("0's vote: %v", s.Votes[0])
	}
	checkBoosted(t, "parts that are wrong", s, 50)
}

// P14.4, what is boosted.

func TestBoosted(t *testing.T) {
	s := open(t, of(4, 10), tick(3))
	for _, x := range []struct {
		name string
		e    api.Event
		want uint64
	}{
		{"of an earlier slot", block(2, 1, 2), 0},
		{"of the slot that it is", block(3, 2, 3), 3},
		{"another one, while 3 is", block(4, 1, 3), 3},
		{"of an earlier slot, while 3 is", block(5, 1, 1), 3},
		{"the next tick", tick(4), 0},
		{"of the slot that it was", block(6, 1, 3), 0},
		{"of the slot that it is", block(7, 6, 4), 7},
		{"a vote", attest(cast(3, 6, origin(), origin(), 0)), 7},
		{"a proof", prove(cast(3, 6, origin(), origin(), 0), cast(3, 5, origin(), origin(), 0)), 7},
		{"a tick into another epoch", tick(8), 0},
		{"one with the greatest root", block(math.MaxUint64, 7, 8), math.MaxUint64},
	} {
		feed(t, s, x.e)
		checkBoosted(t, x.name, s, x.want)
	}
	checkFails(t, "one that is not taken", s, block(9, 9, 8), api.ErrParent)
	checkBoosted(t, "one that is not taken", s, math.MaxUint64)
	s = open(t, of(4, 10), tick(3))
	checkFails(t, "one that is not taken", s, block(1, 1, 3), api.ErrTwice)
	checkBoosted(t, "one that is not taken", s, 0)
}

// P14.4, a block's ledger.

func checkLedger(t *testing.T, name string, s *Store, root uint64, want ledger.State) {
	t.Helper()
	if got := s.records[root].ledger; !reflect.DeepEqual(got, want) {
		t.Errorf("%s: ledger of %d: %+v, want %+v", name, root, got, want)
	}
}

// yes are bools, a letter each.
func yes(letters string) []bool {
	var out []bool
	for _, l := range letters {
		out = append(out, l == 'y')
	}
	return out
}

// plain is a ledger's Justify where nothing has been justified yet.
func plain() justify.State {
	return justify.State{Previous: origin(), Current: origin(), Final: origin()}
}

func TestLedgerOfABlock(t *testing.T) {
	s := open(t, of(4, 10, 10, 10), tick(7))
	feed(t, s, block(2, 1, 2, cast(1, 1, origin(), origin(), 2)))
	checkLedger(t, "in epoch 0", s, 2, ledger.State{Justify: plain(), Before: yes("nnn"), Now: yes("nny")})
	feed(t, s, block(3, 2, 3, cast(3, 2, origin(), origin(), 0), cast(1, 1, origin(), origin(), 1)))
	checkLedger(t, "on it, two votes", s, 3, ledger.State{Justify: plain(), Before: yes("nnn"), Now: yes("yyy")})
	feed(t, s, block(4, 2, 5, cast(5, 4, origin(), point(1, 2), 1), cast(0, 9, origin(), origin(), 0)))
	checkLedger(t, "beside that, in epoch 1", s, 4, ledger.State{Justify: plain(), Epoch: 1, Before: yes("yny"), Now: yes("nyn")})
	feed(t, s, block(5, 1, 6))
	checkLedger(t, "on the first one", s, 5, ledger.State{Justify: plain(), Epoch: 1, Before: yes("nnn"), Now: yes("nnn")})
	checkLedger(t, "what was", s, 2, ledger.State{Justify: plain(), Before: yes("nnn"), Now: yes("nny")})
	checkLedger(t, "the first one", s, 1, ledger.Open(s.Config, 1))
	// What comes by itself is in no ledger.
	feed(t, s, attest(cast(3, 3, origin(), origin(), 0, 1, 2)))
	checkLedger(t, "behind a vote by itself", s, 5, ledger.State{Justify: plain(), Epoch: 1, Before: yes("nnn"), Now: yes("nnn")})
	checkLedger(t, "behind a vote by itself", s, 3, ledger.State{Justify: plain(), Before: yes("nnn"), Now: yes("yyy")})
}

// That a vote counts, and that it is taken, are two things.
func TestLedgerOfVotesThatAreNotTaken(t *testing.T) {
	s := open(t, of(4, 10, 10, 10), tick(9), block(2, 1, 8))
	e := block(3, 2, 9,
		cast(9, 99, origin(), point(2, 2), 0),    // no head
		cast(11, 2, origin(), point(2, 2), 1),    // not yet
		cast(9, 2, point(1, 1), point(2, 2), 2),  // its source does not count
		cast(9, 1, origin(), point(2, 1), 0, 2),  // of another chain
		cast(8, 2, origin(), point(2, 2), 99),    // nobody
		cast(6, 1, point(0, 9), point(1, 1), 2),  // its source does not count, and its epoch is taken by then
		cast(5, 88, origin(), point(1, 1), 1, 2), // no head
	)
	checkDone(t, "votes", s, e, added(3, 2), first(2, 2), first(0, 1))
	checkLedger(t, "votes", s, 3, ledger.State{Justify: plain(), Epoch: 2, Before: yes("nyy"), Now: yes("yyn")})
}

// The chain is the block's own: it may vote for itself, and its siblings are no part of it.
func TestLedgerIsOfTheBlocksOwnChain(t *testing.T) {
	s := open(t, of(4, 10, 10, 10), tick(12), block(2, 1, 7))
	feed(t, s, block(8, 2, 8, cast(8, 8, origin(), point(2, 8), 0), cast(8, 2, origin(), point(2, 2), 1)))
	checkLedger(t, "at the start", s, 8, ledger.State{Justify: plain(), Epoch: 2, Before: yes("nnn"), Now: yes("ynn")})
	feed(t, s, block(9, 2, 9, cast(8, 8, origin(), point(2, 8), 0), cast(8, 2, origin(), point(2, 2), 1)))
	checkLedger(t, "behind the start, on another block", s, 9, ledger.State{Justify: plain(), Epoch: 2, Before: yes("nnn"), Now: yes("nyn")})
	feed(t, s, block(10, 8, 10, cast(9, 8, origin(), point(2, 8), 1), cast(8, 2, origin(), point(2, 2), 2)))
	checkLedger(t, "on the one at the start", s, 10, ledger.State{Justify: plain(), Epoch: 2, Before: yes("nnn"), Now: yes("yyn")})
	feed(t, s, block(12, 10, 12))
	justified := justify.State{Bits: [4]bool{true}, Previous: origin(), Current: point(2, 8), Final: origin()}
	checkLedger(t, "in the next epoch", s, 12, ledger.State{Justify: justified, Epoch: 3, Before: yes("yyn"), Now: yes("nnn")})
}

// Where a block comes very late, more epochs end than are counted at once.
func TestLedgerOfAGreatStep(t *testing.T) {
	s := open(t, of(1, 10), tick(api.MaxSlot))
	checkDone(t, "at the last slot", s, block(2, 1, api.MaxSlot-1), added(2, 1))
	checkLedger(t, "at the last slot", s, 2, ledger.State{Justify: plain(), Epoch: 4096, Before: yes("n"), Now: yes("n")})
	checkDone(t, "on it", s, block(3, 2, api.MaxSlot), added(3, 2))
	checkLedger(t, "on it", s, 3, ledger.State{Justify: plain(), Epoch: 8192, Before: yes("n"), Now: yes("n")})
	if got, want := s.View().Sources, map[uint64]int{1: 0, 2: 0, 3: 0}; !reflect.DeepEqual(got, want) {
		t.Errorf("Sources %v", got)
	}
}

// P14.4, what raises the store, by whole chains.

func TestBlockRaises(t *testing.T) {
	s := steady(t, 8)
	checkPoints(t, "at slot 8", s, origin(), origin())
	feed(t, s, tick(12))
	checkPoints(t, "a tick raises nothing", s, origin(), origin())
	checkDone(t, "at slot 12", s, next(12), added(112, 108), moved(0, 108, 112), moved(1, 108, 112))
	checkPoints(t, "at slot 12", s, point(2, 108), origin())
	feed(t, s, tick(16))
	checkPoints(t, "a tick raises nothing", s, point(2, 108), origin())
	checkDone(t, "at slot 16", s, next(16), added(116, 112), moved(0, 112, 116), moved(1, 112, 116), cutTo(108))
	checkPoints(t, "at slot 16", s, point(3, 112), point(2, 108))
	checkRoots(t, "at slot 16", s, 108, 112, 116)
	feed(t, s, tick(20))
	checkDone(t, "at slot 20", s, next(20), added(120, 116), moved(0, 116, 120), moved(1, 116, 120), cutTo(112))
	checkPoints(t, "at slot 20", s, point(4, 116), point(3, 112))
	checkRoots(t, "at slot 20", s, 112, 116, 120)
}

// A block of now's epoch raises the store by its ledger alone, one of an earlier epoch by Pull, too.
func TestBlockOfAnEarlierEpochRaises(t *testing.T) {
	for _, x := range []struct {
		name             string
		now              int
		justified, final api.Point
		want             []Change
	}{
		{"at its slot", 12, point(2, 108), origin(), nil},
		{"at its epoch's last slot", 15, point(2, 108), origin(), nil},
		{"at the next epoch's first slot", 16, point(3, 112), point(2, 108), []Change{cutTo(108)}},
		{"far later", 99, point(3, 112), point(2, 108), []Change{cutTo(108)}},
	} {
		s := steady(t, 8)
		feed(t, s, tick(x.now))
		want := append([]Change{added(112, 108), moved(0, 108, 112), moved(1, 108, 112)}, x.want...)
		checkDone(t, x.name, s, next(12), want...)
		checkPoints(t, x.name, s, x.justified, x.final)
	}
}

// Pull of epochs 0 and 1 justifies nothing.
func TestBlockOfTheFirstEpochsRaisesNothing(t *testing.T) {
	all := []int{0, 1, 2}
	s := open(t, of(4, 10, 10, 10), tick(40))
	feed(t, s, block(2, 1, 1, cast(1, 2, origin(), origin(), all...)), block(3, 2, 5, cast(5, 3, origin(), point(1, 2), all...)))
	checkPoints(t, "epochs 0 and 1", s, origin(), origin())
	feed(t, s, block(4, 3, 9, cast(9, 4, origin(), point(2, 3), all...)))
	checkPoints(t, "epoch 2", s, point(2, 3), origin())
}

// What a block's ledger has raises first, and then what Pull has: both may make something final.
func TestBlockThatRaisesTwice(t *testing.T) {
	s := steady(t, 12)
	feed(t, s, block(7, 1, 6), block(9, 108, 9), tick(24))
	checkDone(t, "two raises", s, next(16), added(116, 112), moved(0, 112, 116), moved(1, 112, 116), cutTo(108), cutTo(112))
	checkPoints(t, "two raises", s, point(4, 116), point(3, 112))
	checkRoots(t, "two raises", s, 112, 116)
	for _, root := range []uint64{1, 7, 9, 104, 108} {
		checkFails(t, "cut off by either", s, block(root, 116, 24), api.ErrTwice)
	}
}

// A block comes first, and then what its votes, its proofs, its ledger and Pull bring about.
func TestOrderOfWhatIsAnswered(t *testing.T) {
	s := steady(t, 12)
	feed(t, s, block(7, 1, 6), tick(24))
	e := next(16)
	e.Block.Votes = append(e.Block.Votes, cast(23, 7, origin(), point(5, 7), 2))
	a, b := cast(3, 9, origin(), origin(), 1), cast(3, 8, origin(), origin(), 1)
	e = with(e, api.Proof{A: a, B: b})
	checkDone(t, "all kinds", s, e, added(116, 112), moved(0, 112, 116), moved(1, 112, 116), first(2, 7), banned(1, 116), cutTo(108), cutTo(112))
}

// Whoever is banned counts in ledgers as ahead.
func TestBannedCountInLedgers(t *testing.T) {
	s := steady(t, 8)
	a, b := cast(3, 9, origin(), origin(), 0, 1, 2), cast(3, 8, origin(), origin(), 0, 1, 2)
	feed(t, s, prove(a, b), tick(12))
	checkDone(t, "at slot 12", s, next(12), added(112, 108))
	feed(t, s, tick(16))
	checkDone(t, "at slot 16", s, next(16), added(116, 112), cutTo(108))
	checkPoints(t, "at slot 16", s, point(3, 112), point(2, 108))
}
