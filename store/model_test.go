package store

import (
	"maps"
	"reflect"
	"slices"
	"testing"

	"psephos/api"
	"psephos/latest"
	"psephos/ledger"
	"psephos/slash"
	"psephos/viable"
	"psephos/vote"
)

// All of it, held against the chapter's own words, with lists in place of the tree, and all worked out anew where it is asked for.

// leaf is a block as the book has it: one that was cut off stays in it.
type leaf struct {
	parent uint64
	slot   int
	gone   bool
	ledger ledger.State
}

type book struct {
	c                api.Config
	leaves           map[uint64]leaf
	base             uint64 // the first block
	votes            []latest.Entry
	slot             int
	boosted          uint64
	justified, final api.Point
}

func newBook(c api.Config) *book {
	return &book{c, map[uint64]leaf{1: {1, 0, false, ledger.Open(c, 1)}}, 1, make([]latest.Entry, len(c.Balances)), 0, 0, point(0, 1), point(0, 1)}
}

func (b *book) there(root uint64) bool {
	l, ok := b.leaves[root]
	return ok && !l.gone
}

func (b *book) roots() []uint64 {
	var roots []uint64
	for root, l := range b.leaves {
		if !l.gone {
			roots = append(roots, root)
		}
	}
	slices.Sort(roots)
	return roots
}

// line is a block, its parent, and so on, down to the first one.
func (b *book) line(root uint64) []uint64 {
	if !b.there(root) {
		return nil
	}
	out := []uint64{root}
	for root != b.base {
		root = b.leaves[root].parent
		out = append(out, root)
	}
	return out
}

func (b *book) below(root, on uint64) bool { return slices.Contains(b.line(root), on) }

func (b *book) chain(root uint64) ledger.Chain {
	return func(slot int) uint64 {
		line := b.line(root)
		if line == nil {
			return 0
		}
		for _, r := range line {
			if b.leaves[r].slot <= slot {
				return r
			}
		}
		return b.base
	}
}

func (b *book) apply(e api.Event) ([]Change, api.Errno) {
	switch e.Kind {
	case api.Tick:
		if e.Slot <= b.slot {
			return nil, api.ErrPast
		}
		if e.Slot > 1<<40 {
			return nil, api.ErrFuture
		}
		b.slot, b.boosted = e.Slot, 0
		return nil, 0
	case api.Propose:
		return b.propose(e.Block)
	case api.Attest:
		return b.attest(e.Vote, false)
	case api.Slash:
		return b.prove(e.Proof)
	}
	return nil, api.ErrForm
}

func (b *book) attest(v api.Vote, ofBlock bool) ([]Change, api.Errno) {
	now := b.slot / b.c.Slots
	switch {
	case !vote.Right(b.c, v):
		return nil, api.ErrVote
	case v.Slot > b.slot, v.Slot == b.slot && !ofBlock:
		return nil, api.ErrFuture
	case now-v.Target.Epoch > 1 && !ofBlock:
		return nil, api.ErrPast
	case !b.there(v.Head), b.leaves[v.Head].slot > v.Slot:
		return nil, api.ErrHead
	case b.chain(v.Head)(v.Target.Epoch*b.c.Slots) != v.Target.Root:
		return nil, api.ErrVote
	}
	var out []Change
	for _, who := range v.Who {
		was := b.votes[who]
		if was.Banned || was.Has && was.Epoch >= v.Target.Epoch {
			continue
		}
		b.votes[who] = latest.Entry{Has: true, Epoch: v.Target.Epoch, Root: v.Head}
		out = append(out, Change{Kind: Moved, Root: v.Head, Who: who, From: was.Root, Had: was.Has})
	}
	return out, 0
}

func (b *book) prove(p api.Proof) ([]Change, api.Errno) {
	who, err := slash.Who(b.c, p)
	if err != nil {
		return nil, api.ErrProof
	}
	var out []Change
	for _, w := range who {
		if was := b.votes[w]; !was.Banned {
			b.votes[w].Banned = true
			out = append(out, Change{Kind: Banned, Who: w, From: was.Root, Had: was.Has})
		}
	}
	return out, 0
}

// wrong is the first of what is wrong with a block.
func (b *book) wrong(x api.Block) api.Errno {
	l, was := b.leaves[x.Root]
	switch {
	case x.Slot > b.slot:
		return api.ErrFuture
	case x.Root == 0:
		return api.ErrArgument
	case len(x.Votes) > 16 || len(x.Proofs) > 16:
		return api.ErrFull
	case was && l.gone, was:
		return api.ErrTwice
	case !b.there(x.Parent):
		return api.ErrParent
	case x.Slot <= b.leaves[x.Parent].slot:
		return api.ErrSlot
	case len(b.roots()) >= 1024:
		return api.ErrFull
	}
	return 0
}

func (b *book) propose(x api.Block) ([]Change, api.Errno) {
	if err := b.wrong(x); err != 0 {
		return nil, err
	}
	b.leaves[x.Root] = leaf{parent: x.Parent, slot: x.Slot}
	at := b.chain(x.Root)
	state := ledger.Advance(b.c, b.leaves[x.Parent].ledger, x.Slot, at)
	for _, v := range x.Votes {
		if next, ok := ledger.Count(b.c, state, v, at); ok {
			state = next
		}
	}
	b.leaves[x.Root] = leaf{x.Parent, x.Slot, false, state}
	out := []Change{{Kind: Added, Root: x.Root, Parent: x.Parent}}
	for _, v := range x.Votes {
		some, _ := b.attest(v, true)
		out = append(out, some...)
	}
	for _, p := range x.Proofs {
		some, _ := b.prove(p)
		out = append(out, some...)
	}
	if x.Slot == b.slot && b.boosted == 0 {
		b.boosted = x.Root
	}
	out = append(out, b.raise(state.Justify.Current, state.Justify.Final)...)
	if x.Slot/b.c.Slots < b.slot/b.c.Slots {
		// The document has it told behind the first raise, which may have cut off something.
		j := ledger.Pull(b.c, state, at)
		out = append(out, b.raise(j.Current, j.Final)...)
	}
	return out, 0
}

func (b *book) raise(justified, final api.Point) []Change {
	if justified.Epoch > b.justified.Epoch && b.below(justified.Root, b.final.Root) {
		b.justified = justified
	}
	if final.Epoch <= b.final.Epoch || !b.below(final.Root, b.final.Root) || !b.below(b.justified.Root, final.Root) {
		return nil
	}
	b.final = final
	var off []uint64
	for _, root := range b.roots() {
		if !b.below(root, final.Root) {
			off = append(off, root)
		}
	}
	for _, root := range off {
		l := b.leaves[root]
		l.gone = true
		b.leaves[root] = l
		if root == b.boosted {
			b.boosted = 0
		}
	}
	b.base = final.Root
	return []Change{{Kind: Cut, Root: final.Root}}
}

func (b *book) view() viable.View {
	now, sources := b.slot/b.c.Slots, map[uint64]int{}
	for _, root := range b.roots() {
		l := b.leaves[root]
		j := l.ledger.Justify
		if l.slot/b.c.Slots < now {
			j = ledger.Pull(b.c, l.ledger, b.chain(root))
		}
		sources[root] = j.Current.Epoch
	}
	return viable.View{Justified: b.justified, Final: b.final, Epoch: now, Sources: sources}
}

// dice is a row of numbers that hang on where it begins alone.
type dice uint64

func (d *dice) below(n int) int {
	*d = *d*6364136223846793005 + 1442695040888963407
	return int(uint64(*d>>33) % uint64(n))
}

func (d *dice) oneIn(n int) bool { return d.below(n) == 0 }

// who are some validators, mostly most of them.
func (d *dice) who(n int) []int {
	var who []int
	for w := range n {
		if !d.oneIn(4) {
			who = append(who, w)
		}
	}
	if d.oneIn(40) {
		who = append(who, n)
	}
	return who
}

// root is a block, mostly one that is there, and mostly a late one.
func (d *dice) root(b *book) uint64 {
	if d.oneIn(60) {
		return uint64(d.below(len(b.leaves) + 3))
	}
	roots := b.roots()
	slices.SortFunc(roots, func(x, y uint64) int { return b.leaves[y].slot - b.leaves[x].slot })
	if d.oneIn(6) {
		return roots[d.below(len(roots))]
	}
	return roots[d.below(min(2, len(roots)))]
}

// vote is one for a block, from what that has as justified, of a slot that it may be of; at times something of it is otherwise.
func (d *dice) vote(b *book, head uint64, slot int, source api.Point) api.Vote {
	e := slot / b.c.Slots
	v := api.Vote{Slot: slot, Head: head, Source: source, Target: point(e, b.chain(head)(e*b.c.Slots)), Who: d.who(len(b.votes))}
	switch d.below(40) {
	case 0:
		v.Head = d.root(b)
	case 1:
		v.Target.Root = d.root(b)
	case 2:
		v.Slot = max(v.Slot-d.below(2*b.c.Slots), 0)
	case 3:
		v.Source = b.justified
	case 4:
		v.Slot, v.Target.Epoch = v.Slot+b.c.Slots, v.Target.Epoch+1
	}
	return v
}

// block is one on a block, with votes for its own chain.
func (d *dice) block(b *book) api.Block {
	parent := d.root(b)
	l := b.leaves[parent]
	x := api.Block{Root: uint64(len(b.leaves) + 1), Parent: parent, Slot: max(b.slot-d.below(3), l.slot+1)}
	if d.oneIn(12) {
		x.Slot = l.slot + d.below(3*b.c.Slots)
	}
	if d.oneIn(40) {
		x.Root = uint64(d.below(len(b.leaves) + 1))
	}
	if !b.there(parent) || b.wrong(x) != 0 {
		return x
	}
	// What counts hangs on the ledger as it is at the block's slot: it is tried ahead of the block.
	b.leaves[x.Root] = leaf{parent: parent, slot: x.Slot}
	defer delete(b.leaves, x.Root)
	state := ledger.Advance(b.c, l.ledger, x.Slot, b.chain(x.Root))
	for range d.below(4) {
		slot, source := x.Slot-d.below(2), state.Justify.Current
		if slot/b.c.Slots < state.Epoch {
			source = state.Justify.Previous
		}
		x.Votes = append(x.Votes, d.vote(b, []uint64{x.Root, parent}[d.below(2)], slot, source))
	}
	if d.oneIn(12) {
		x.Proofs = append(x.Proofs, d.proof(b))
	}
	if d.oneIn(100) {
		x.Votes = append(x.Votes, make([]api.Vote, 14+d.below(4))...)
	}
	return x
}

// proof is one that mostly shows a single validator.
func (d *dice) proof(b *book) api.Proof {
	p := api.Proof{A: d.vote(b, d.root(b), b.slot, origin()), B: d.vote(b, d.root(b), b.slot, origin())}
	if !d.oneIn(8) {
		who := d.below(len(b.votes) + 1)
		p.A.Who, p.B.Who = []int{who}, []int{who}
	}
	return p
}

func (d *dice) event(b *book) api.Event {
	e := api.Event{Kind: api.EventKind(d.below(8))}
	switch e.Kind {
	case api.Tick:
		e.Slot = b.slot + d.below(4)
		if d.oneIn(8) {
			e.Slot = b.slot + d.below(2*b.c.Slots)
		}
	case api.Propose, 4, 5:
		e.Kind, e.Block = api.Propose, d.block(b)
	case api.Attest, 6:
		e.Kind = api.Attest
		head := d.root(b)
		e.Vote = d.vote(b, head, max(b.slot-d.below(3), b.leaves[head].slot), b.justified)
	case api.Slash:
		if d.oneIn(3) {
			e.Proof = d.proof(b)
		}
	default:
		if !d.oneIn(8) {
			return api.Event{Slot: b.slot + 1}
		}
	}
	return e
}

// tally counts what came about, for a run that brings about little says little.
type tally struct {
	errors  map[api.Errno]int
	kinds   map[ChangeKind]int
	finals  int
	twice   int
	dropped int
}

func (n *tally) count(s *Store, boosted uint64, changes []Change) {
	cuts := 0
	for _, c := range changes {
		n.kinds[c.Kind]++
		if c.Kind == Cut {
			cuts++
		}
	}
	if cuts == 2 {
		n.twice++
	}
	if boosted != 0 && s.Boosted == 0 && cuts > 0 {
		n.dropped++
	}
}

func TestAgainstTheBook(t *testing.T) {
	n := tally{map[api.Errno]int{}, map[ChangeKind]int{}, 0, 0, 0}
	for seed := range 300 {
		d := dice(seed)
		c := api.Config{Slots: 1 + d.below(4), Boost: d.below(101)}
		for range 1 + d.below(6) {
			c.Balances = append(c.Balances, uint64(1+d.below(3)))
		}
		s, b := open(t, c), newBook(c)
		for k := range 200 {
			e := d.event(b)
			boosted, final := s.Boosted, s.Final
			got, err := s.Apply(e)
			want, wrong := b.apply(e)
			if api.Number(err) != wrong || !slices.Equal(got, want) {
				t.Fatalf("seed %d, event %d, %+v: %+v, %v, want %+v, %v", seed, k, e, got, err, want, wrong)
			}
			checkBook(t, seed, k, s, b)
			checkSound(t, "a run", s)
			// What is final is never taken back, and a block that is taken is there.
			if s.Final.Epoch < final.Epoch || err == nil && e.Kind == api.Propose && !s.Tree.Has(e.Block.Root) {
				t.Fatalf("seed %d, event %d: final %v, and then %v", seed, k, final, s.Final)
			}
			n.errors[wrong]++
			n.count(s, boosted, got)
		}
		if s.Final.Epoch > 0 {
			n.finals++
		}
	}
	for _, e := range []api.Errno{0, api.ErrForm, api.ErrPast, api.ErrFuture, api.ErrParent, api.ErrTwice, api.ErrSlot, api.ErrVote, api.ErrHead, api.ErrProof, api.ErrFull, api.ErrArgument} {
		if n.errors[e] < 15 {
			t.Errorf("error %d: %d times", e, n.errors[e])
		}
	}
	if n.kinds[Added] < 5000 || n.kinds[Moved] < 5000 || n.kinds[Banned] < 200 || n.kinds[Cut] < 500 || n.finals < 100 || n.twice < 20 || n.dropped < 5 {
		t.Errorf("%+v", n)
	}
}

func checkBook(t *testing.T, seed, k int, s *Store, b *book) {
	t.Helper()
	if s.Slot != b.slot || s.Boosted != b.boosted || s.Justified != b.justified || s.Final != b.final || !slices.Equal(s.Votes, b.votes) {
		t.Fatalf("seed %d, event %d: %d, %d, %v, %v, %v, want %d, %d, %v, %v, %v", seed, k, s.Slot, s.Boosted, s.Justified, s.Final, s.Votes, b.slot, b.boosted, b.justified, b.final, b.votes)
	}
	if !slices.Equal(s.Tree.Roots(), b.roots()) || s.Tree.First() != b.base {
		t.Fatalf("seed %d, event %d: blocks %v, want %v", seed, k, s.Tree.Roots(), b.roots())
	}
	for root, r := range s.records {
		if !reflect.DeepEqual(r.ledger, b.leaves[root].ledger) {
			t.Fatalf("seed %d, event %d: ledger of %d: %+v, want %+v", seed, k, root, r.ledger, b.leaves[root].ledger)
		}
	}
	var gone []uint64
	for root, l := range b.leaves {
		if l.gone {
			gone = append(gone, root)
		}
	}
	slices.Sort(gone)
	if got := slices.Sorted(maps.Keys(s.gone)); !slices.Equal(got, gone) {
		t.Fatalf("seed %d, event %d: gone %v, want %v", seed, k, got, gone)
	}
	if got, want := s.View(), b.view(); !reflect.DeepEqual(got, want) {
		t.Fatalf("seed %d, event %d: View %+v, want %+v", seed, k, got, want)
	}
}
