package store

import (
	"math"
	"reflect"
	"slices"
	"testing"

	"psephos/api"
	"psephos/latest"
)

// grove is at slot 14, in epoch 3 of four slots each: the blocks 2 on 1 at 3, 3 on 2 at 4, 4 on 3 at 6, 5 on 2 at 9, 6 on 4 at 13; four validators.
func grove(t *testing.T) *Store {
	t.Helper()
	return open(t, of(4, 10, 10, 10, 10), tick(14), block(2, 1, 3), block(3, 2, 4), block(4, 3, 6), block(5, 2, 9), block(6, 4, 13))
}

// fair is a vote that a grove takes.
func fair(who ...int) api.Vote { return cast(13, 6, origin(), point(3, 4), who...) }

// inBlock is a block of a grove, at an earlier slot, that has some votes.
func inBlock(votes ...api.Vote) api.Event { return block(50, 1, 2, votes...) }

// checkTaken asks that a grove takes a vote by itself.
func checkTaken(t *testing.T, name string, v api.Vote) {
	t.Helper()
	s := grove(t)
	want, changes := look(s), []Change(nil)
	for _, who := range v.Who {
		changes = append(changes, first(who, v.Head))
		want.votes[who] = latest.Entry{Has: true, Epoch: v.Target.Epoch, Root: v.Head}
	}
	checkDone(t, name, s, attest(v), changes...)
	if got := look(s); !reflect.DeepEqual(got, want) {
		t.Errorf("%s: behind it %+v, want %+v", name, got, want)
	}
}

// checkTakenInBlock asks that a grove takes a vote of a block.
func checkTakenInBlock(t *testing.T, name string, v api.Vote) {
	t.Helper()
	changes := []Change{added(50, 1)}
	for _, who := range v.Who {
		changes = append(changes, first(who, v.Head))
	}
	s := grove(t)
	checkDone(t, name+", in a block", s, inBlock(v), changes...)
	for _, who := range v.Who {
		if got, want := s.Votes[who], (latest.Entry{Has: true, Epoch: v.Target.Epoch, Root: v.Head}); got != want {
			t.Errorf("%s, in a block: %v, want %v", name, got, want)
		}
	}
}

// checkLeft asks that a grove takes a block, but not the vote that it has.
func checkLeft(t *testing.T, name string, v api.Vote) {
	t.Helper()
	s := grove(t)
	checkDone(t, name+", in a block", s, inBlock(v), added(50, 1))
	if !slices.Equal(s.Votes, latest.Of(4)) {
		t.Errorf("%s, in a block: %v", name, s.Votes)
	}
}

// checkWrong asks that a grove does not take a vote, neither by itself nor of a block.
func checkWrong(t *testing.T, name string, v api.Vote, want api.Errno) {
	t.Helper()
	checkFails(t, name, grove(t), attest(v), want)
	checkLeft(t, name, v)
}

// P14.3, votes that are taken.

func TestAttest(t *testing.T) {
	for _, x := range []struct {
		name string
		v    api.Vote
	}{
		{"of all", fair(0, 1, 2, 3)},
		{"of the first one", fair(0)},
		{"of the last one", fair(3)},
		{"of some", fair(1, 3)},
		{"the head is of its slot", cast(13, 6, origin(), point(3, 4), 0)},
		{"the head is of an earlier slot", cast(13, 4, origin(), point(3, 4), 0)},
		{"at the start of the epoch", cast(12, 4, origin(), point(3, 4), 0)},
		{"for another branch", cast(13, 5, origin(), point(3, 5), 1)},
		{"for the first block", cast(13, 1, origin(), point(3, 1), 1)},
		{"of the epoch ahead", cast(11, 4, origin(), point(2, 4), 1)},
		{"of the epoch ahead, at its start", cast(8, 3, origin(), point(2, 3), 1)},
		{"of the epoch ahead, the head behind its start", cast(9, 5, origin(), point(2, 2), 1)},
		{"any source that may be", cast(13, 6, point(3, 77), point(3, 4), 2)},
		{"a source that is not there", cast(13, 6, point(1, 0), point(3, 4), 2)},
	} {
		checkTaken(t, x.name, x.v)
		checkTakenInBlock(t, x.name, x.v)
	}
}

// The target's root is that of the block which stood at the start: at it, or the last one ahead of it.
func TestAttestOfTargets(t *testing.T) {
	s := open(t, of(4, 10, 10, 10), tick(20), block(7, 1, 7), block(8, 7, 8), block(9, 8, 9), block(19, 9, 19))
	for _, x := range []struct {
		slot   int
		head   uint64
		target api.Point
		want   api.Errno
	}{
		{19, 19, point(4, 9), 0},
		{19, 19, point(4, 19), api.ErrVote},
		{19, 19, point(4, 8), api.ErrVote},
		{19, 9, point(4, 9), 0},
		{18, 8, point(4, 8), 0},
		{18, 8, point(4, 9), api.ErrVote},
		{17, 7, point(4, 7), 0},
		{16, 1, point(4, 1), 0},
		{16, 1, point(4, 7), api.ErrVote},
		{16, 1, point(4, 0), api.ErrVote},
		{16, 1, point(4, 99), api.ErrVote},
	} {
		v := cast(x.slot, x.head, origin(), x.target, 0)
		if x.want != 0 {
			checkFails(t, "a target", s, attest(v), x.want)
			continue
		}
		a := open(t, of(4, 10, 10, 10), tick(20), block(7, 1, 7), block(8, 7, 8), block(9, 8, 9), block(19, 9, 19))
		checkDone(t, "a target", a, attest(v), first(0, x.head))
	}
	// At epoch 2, of which 8 is the first block.
	s = open(t, of(4, 10, 10, 10), tick(10), block(7, 1, 7), block(8, 7, 8), block(9, 8, 9))
	checkFails(t, "the block ahead of the start", s, attest(cast(9, 9, origin(), point(2, 7), 0)), api.ErrVote)
	checkFails(t, "the head", s, attest(cast(9, 9, origin(), point(2, 9), 0)), api.ErrVote)
	checkDone(t, "the block at the start", s, attest(cast(9, 9, origin(), point(2, 8), 0)), first(0, 9))
	checkDone(t, "the head is the block at the start", s, attest(cast(8, 8, origin(), point(2, 8), 1)), first(1, 8))
	checkDone(t, "nothing at the start", s, attest(cast(9, 7, origin(), point(2, 7), 2)), first(2, 7))
}

// P14.3, each error of a vote by itself.

func TestAttestOfVotesThatAreNotRight(t *testing.T) {
	for _, x := range []struct {
		name string
		who  []int
	}{
		{"nobody", nil},
		{"nobody, empty", []int{}},
		{"twice", []int{1, 1}},
		{"falling", []int{2, 1}},
		{"below 0", []int{-1, 0}},
		{"far below 0", []int{math.MinInt}},
		{"one that there is not", []int{0, 4}},
		{"far above", []int{math.MaxInt}},
	} {
		checkWrong(t, x.name, fair(x.who...), api.ErrVote)
	}
	for _, x := range []struct {
		name string
		v    api.Vote
	}{
		{"a slot below 0", cast(-1, 1, origin(), point(0, 1), 0)},
		{"a source below 0", cast(13, 6, point(-1, 1), point(3, 4), 0)},
		{"a source above the target", cast(13, 6, point(4, 1), point(3, 4), 0)},
		{"the target is of the epoch ahead", cast(13, 6, origin(), point(2, 4), 0)},
		{"the target is of a later epoch", cast(11, 4, origin(), point(3, 4), 0)},
		{"a target below 0", cast(13, 6, origin(), point(-1, 1), 0)},
	} {
		checkWrong(t, x.name, x.v, api.ErrVote)
	}
}

func TestAttestOfTheSlotThatItIs(t *testing.T) {
	v := cast(14, 6, origin(), point(3, 4), 0)
	checkFails(t, "of the slot that it is", grove(t), attest(v), api.ErrFuture)
	checkTakenInBlock(t, "of the slot that it is", v)
	s := grove(t)
	feed(t, s, tick(15))
	checkDone(t, "of the slot that it was", s, attest(v), first(0, 6))
	// At the beginning there is no earlier slot.
	s = open(t, of(4, 10))
	v = cast(0, 1, origin(), origin(), 0)
	checkFails(t, "of slot 0", s, attest(v), api.ErrFuture)
	feed(t, s, tick(1))
	checkDone(t, "of slot 0", s, attest(v), first(0, 1))
}

func TestAttestOfLaterSlots(t *testing.T) {
	for _, slot := range []int{15, 16, 19, 20, 1 << 32, api.MaxSlot, api.MaxSlot + 1, math.MaxInt} {
		// Of these there is no start that is told wrong: the head is the chain's block there, but at 15.
		root := uint64(6)
		if slot == 15 {
			root = 4
		}
		checkWrong(t, "of a later slot", cast(slot, 6, origin(), point(slot/4, root), 0), api.ErrFuture)
	}
}

func TestAttestOfEarlierEpochs(t *testing.T) {
	one, two, three := cast(9, 5, origin(), point(2, 2), 0), cast(7, 4, origin(), point(1, 3), 0), cast(3, 2, origin(), origin(), 0)
	checkTaken(t, "one below now", one)
	checkTakenInBlock(t, "one below now", one)
	for _, v := range []api.Vote{two, three} {
		checkFails(t, "two below now, or more", grove(t), attest(v), api.ErrPast)
		checkTakenInBlock(t, "two below now, or more", v)
	}
	// The epoch that it is counts, not how many slots ago.
	s := grove(t)
	feed(t, s, tick(15))
	checkDone(t, "at the end of the epoch", s, attest(cast(8, 3, origin(), point(2, 3), 0)), first(0, 3))
	feed(t, s, tick(16))
	checkFails(t, "at the next one's beginning", s, attest(cast(11, 4, origin(), point(2, 4), 1)), api.ErrPast)
	checkDone(t, "at the next one's beginning", s, attest(cast(12, 4, origin(), point(3, 4), 1)), first(1, 4))
	// At the beginning no epoch is two below.
	s = open(t, of(4, 10), tick(7))
	checkDone(t, "epoch 0 at 1", s, attest(cast(0, 1, origin(), origin(), 0)), first(0, 1))
	feed(t, s, tick(8))
	checkFails(t, "epoch 0 at 2", s, attest(cast(3, 1, origin(), origin(), 0)), api.ErrPast)
}

func TestAttestOfHeadsThatAreNot(t *testing.T) {
	for _, head := range []uint64{0, 7, 50, 1<<32 + 6, math.MaxUint64} {
		for _, root := range []uint64{0, 1, 4, 6, head} {
			checkFails(t, "a head that is not there", grove(t), attest(cast(13, head, origin(), point(3, root), 0)), api.ErrHead)
		}
		if head != 50 {
			checkLeft(t, "a head that is not there", cast(13, head, origin(), point(3, 0), 0))
		}
	}
	checkWrong(t, "a head that is one later", cast(12, 6, origin(), point(3, 4), 0), api.ErrHead)
	checkWrong(t, "a head of a later epoch", cast(11, 6, origin(), point(2, 4), 0), api.ErrHead)
	checkWrong(t, "a head that is one later", cast(8, 5, origin(), point(2, 2), 0), api.ErrHead)
	checkTaken(t, "a head of its slot", cast(9, 5, origin(), point(2, 2), 0))
}

// A block is there for its own votes.
func TestAttestForTheBlockItself(t *testing.T) {
	checkTakenInBlock(t, "for itself", cast(13, 50, origin(), point(3, 50), 0, 2))
	checkTakenInBlock(t, "for itself, at its own slot", cast(2, 50, origin(), point(0, 1), 0, 2))
	checkLeft(t, "for itself, ahead of its slot", cast(1, 50, origin(), point(0, 1), 0, 2))
	s := grove(t)
	checkFails(t, "ahead of the block", s, attest(cast(13, 50, origin(), point(3, 50), 0)), api.ErrHead)
	feed(t, s, inBlock())
	checkDone(t, "behind the block", s, attest(cast(13, 50, origin(), point(3, 50), 0)), first(0, 50))
}

func TestAttestOfWrongTargets(t *testing.T) {
	for _, root := range []uint64{0, 1, 2, 3, 5, 6, 7, math.MaxUint64} {
		checkWrong(t, "not the chain's", cast(13, 6, origin(), point(3, root), 0), api.ErrVote)
	}
	for _, root := range []uint64{0, 1, 3, 4, 5, 6} {
		checkWrong(t, "not the chain's", cast(9, 5, origin(), point(2, root), 0), api.ErrVote)
	}
}

// P14.3, two errors of a vote at once: the one that is named first.

func TestAttestOfTwoErrors(t *testing.T) {
	for _, x := range []struct {
		name string
		v    api.Vote
		want api.Errno
	}{
		{"not Right, of the slot that it is", cast(14, 6, origin(), point(3, 4), 1, 0), api.ErrVote},
		{"not Right, of a later slot", cast(15, 6, origin(), point(3, 4)), api.ErrVote},
		{"not Right, too early", cast(7, 4, point(2, 1), point(1, 3), 0), api.ErrVote},
		{"not Right, no head", cast(13, 99, origin(), point(3, 4), 4), api.ErrVote},
		{"not Right, a later head", cast(12, 6, point(-1, 0), point(3, 4), 0), api.ErrVote},
		{"not Right, not the chain's target", cast(13, 6, origin(), point(3, 5), 0, 0), api.ErrVote},
		{"of the slot that it is, no head", cast(14, 99, origin(), point(3, 4), 0), api.ErrFuture},
		{"of a later slot, no head", cast(15, 99, origin(), point(3, 4), 0), api.ErrFuture},
		{"of the slot that it is, not the chain's target", cast(14, 6, origin(), point(3, 5), 0), api.ErrFuture},
		{"of a later slot, not the chain's target", cast(16, 6, origin(), point(4, 5), 0), api.ErrFuture},
		{"too early, no head", cast(7, 99, origin(), point(1, 3), 0), api.ErrPast},
		{"too early, a later head", cast(7, 6, origin(), point(1, 3), 0), api.ErrPast},
		{"too early, not the chain's target", cast(7, 4, origin(), point(1, 4), 0), api.ErrPast},
		{"no head, not the chain's target", cast(13, 99, origin(), point(3, 5), 0), api.ErrHead},
		{"a later head, not the chain's target", cast(12, 6, origin(), point(3, 5), 0), api.ErrHead},
	} {
		checkFails(t, x.name, grove(t), attest(x.v), x.want)
		checkLeft(t, x.name, x.v)
	}
	// Of a vote of the slot that it is, and of one that is too early, in a block, the next error is there still.
	checkLeft(t, "two errors at once", cast(14, 99, origin(), point(3, 4), 0))
	checkLeft(t, "two errors at once", cast(7, 6, origin(), point(1, 3), 0))
}

// P14.3, Moved.

func TestMoved(t *testing.T) {
	s := grove(t)
	checkDone(t, "first votes", s, attest(cast(9, 5, origin(), point(2, 2), 1, 3)), first(1, 5), first(3, 5))
	checkDone(t, "again", s, attest(cast(9, 5, origin(), point(2, 2), 1, 3)))
	checkDone(t, "for another head, of the same epoch", s, attest(cast(11, 4, origin(), point(2, 4), 0, 1, 3)), first(0, 4))
	checkDone(t, "of a later epoch", s, attest(cast(13, 6, origin(), point(3, 4), 1, 2)), moved(1, 5, 6), first(2, 6))
	checkDone(t, "of an earlier epoch", s, attest(cast(11, 4, origin(), point(2, 4), 1, 2)))
	checkDone(t, "of a later epoch, for the same head", s, attest(cast(13, 4, origin(), point(3, 4), 0, 1, 2, 3)), moved(0, 4, 4), moved(3, 5, 4))
	want := latest.Votes{{Has: true, Epoch: 3, Root: 4}, {Has: true, Epoch: 3, Root: 6}, {Has: true, Epoch: 3, Root: 6}, {Has: true, Epoch: 3, Root: 4}}
	if !slices.Equal(s.Votes, want) {
		t.Errorf("Votes %v, want %v", s.Votes, want)
	}
}

func TestMovedOfThoseWhoAreBanned(t *testing.T) {
	s := grove(t)
	old := cast(9, 5, origin(), point(2, 2), 0, 1)
	feed(t, s, attest(old), prove(cast(9, 5, origin(), point(2, 2), 1, 2), cast(11, 4, origin(), point(2, 4), 1, 2)))
	checkDone(t, "of some who are banned", s, attest(fair(0, 1, 2, 3)), moved(0, 5, 6), first(3, 6))
	checkDone(t, "of those alone who are banned", s, attest(fair(1, 2)))
	want := latest.Votes{{Has: true, Epoch: 3, Root: 6}, {Has: true, Epoch: 2, Root: 5, Banned: true}, {Banned: true}, {Has: true, Epoch: 3, Root: 6}}
	if !slices.Equal(s.Votes, want) {
		t.Errorf("Votes %v, want %v", s.Votes, want)
	}
}

// A vote stays while its head is cut off, and is told as it was.
func TestMovedFromWhatWasCutOff(t *testing.T) {
	s := steady(t, 12)
	feed(t, s, tick(14), block(20, 1, 13), attest(cast(13, 20, origin(), point(3, 1), 2)), tick(16), next(16))
	if s.Tree.Has(20) {
		t.Fatal("20 is there")
	}
	if got, want := s.Votes[2], (latest.Entry{Has: true, Epoch: 3, Root: 20}); got != want {
		t.Errorf("behind Cut: %v, want %v", got, want)
	}
	feed(t, s, tick(17))
	checkDone(t, "from what was cut off", s, attest(cast(16, 116, point(3, 112), point(4, 116), 2)), moved(2, 20, 116))
	checkFails(t, "for what was cut off", s, attest(cast(16, 20, origin(), point(4, 20), 2)), api.ErrHead)
}

// P14.3, a proof.

// fork is two votes of a grove for unlike things.
func fork(a, b []int) (api.Vote, api.Vote) {
	return cast(13, 6, origin(), point(3, 4), a...), cast(13, 5, origin(), point(3, 5), b...)
}

func TestProof(t *testing.T) {
	s := grove(t)
	feed(t, s, attest(cast(9, 5, origin(), point(2, 2), 1)))
	a, b := fork([]int{0, 1, 3}, []int{1, 2, 3})
	want := look(s)
	want.votes[1].Banned, want.votes[3].Banned = true, true
	checkDone(t, "of one who voted, and one who did not", s, prove(a, b), banned(1, 5), silent(3))
	if got := look(s); !reflect.DeepEqual(got, want) {
		t.Errorf("behind it: %+v, want %+v", got, want)
	}
	checkDone(t, "again", s, prove(a, b))
	checkDone(t, "again, the other way", s, prove(b, a))
	a, b = fork([]int{0, 1, 2, 3}, []int{0, 1, 2, 3})
	checkDone(t, "some are banned already", s, prove(a, b), silent(0), silent(2))
	checkDone(t, "all are", s, prove(a, b))
}

// A proof's votes need not be ones that would be taken.
func TestProofOfVotesOfAnyTime(t *testing.T) {
	for _, x := range []struct {
		name string
		a, b api.Vote
	}{
		{"of later slots", cast(400, 6, origin(), point(100, 4), 2), cast(401, 6, origin(), point(100, 4), 2)},
		{"of earlier epochs", cast(0, 1, origin(), point(0, 1), 2), cast(1, 1, origin(), point(0, 1), 2)},
		{"of heads that are not there", cast(13, 88, origin(), point(3, 4), 2), cast(13, 99, origin(), point(3, 4), 2)},
		{"of roots that are no chain's", cast(13, 6, origin(), point(3, 98), 2), cast(13, 6, origin(), point(3, 99), 2)},
		{"around one another", cast(17, 6, point(1, 8), point(4, 9), 2), cast(13, 5, point(2, 8), point(3, 9), 2)},
		{"around one another, the other way", cast(13, 5, point(2, 8), point(3, 9), 2), cast(17, 6, point(1, 8), point(4, 9), 2)},
	} {
		checkDone(t, x.name, grove(t), prove(x.a, x.b), silent(2))
		s := grove(t)
		feed(t, s, attest(cast(9, 5, origin(), point(2, 2), 2)))
		checkDone(t, x.name+", of one who voted", s, prove(x.a, x.b), banned(2, 5))
		checkDone(t, x.name+", in a block", grove(t), with(inBlock(), api.Proof{A: x.a, B: x.b}), added(50, 1), silent(2))
	}
}

func TestProofThatShowsNobody(t *testing.T) {
	a, b := fork([]int{0, 1}, []int{0, 1})
	for _, x := range []struct {
		name   string
		change func(a, b *api.Vote)
	}{
		{"the same twice", func(a, b *api.Vote) { *b = *a }},
		{"the same, of others", func(a, b *api.Vote) { *b = *a; b.Who = []int{1, 2} }},
		{"nobody in both", func(a, b *api.Vote) { b.Who = []int{2, 3} }},
		{"the first one may not be", func(a, b *api.Vote) { a.Who = []int{1, 0} }},
		{"the second one may not be", func(a, b *api.Vote) { b.Who = []int{0, 4} }},
		{"the first one's epoch is not its slot's", func(a, b *api.Vote) { a.Slot = 16 }},
		{"the second one's source is later than its target", func(a, b *api.Vote) { b.Source.Epoch = 4 }},
		{"of unlike epochs, neither around the other one", func(a, b *api.Vote) { b.Slot, b.Target.Epoch = 17, 4 }},
		{"no votes", func(a, b *api.Vote) { *a, *b = api.Vote{}, api.Vote{} }},
	} {
		a, b := a, b
		x.change(&a, &b)
		checkFails(t, x.name, grove(t), prove(a, b), api.ErrProof)
		s := grove(t)
		checkDone(t, x.name+", in a block", s, with(inBlock(), api.Proof{A: a, B: b}), added(50, 1))
		if !slices.Equal(s.Votes, latest.Of(4)) {
			t.Errorf("%s, in a block: %v", x.name, s.Votes)
		}
	}
}
