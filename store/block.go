package store

import (
	"psephos/api"
	"psephos/ledger"
)

// propose takes a block, with all that is in it, and by it.
func (s *Store) propose(b api.Block) ([]Change, error) {
	if err := s.lay(b); err != nil {
		return nil, err
	}
	at := s.chain(b.Root)
	state := s.count(b, at)
	pulled := ledger.Pull(s.Config, state, at)
	s.records[b.Root] = record{state, pulled.Current.Epoch}

	changes := []Change{{Kind: Added, Root: b.Root, Parent: b.Parent}}
	changes = append(changes, s.takeParts(b)...)
	if b.Slot == s.Slot && s.Boosted == 0 {
		s.Boosted = b.Root
	}
	changes = append(changes, s.raise(state.Justify.Current, state.Justify.Final)...)
	if s.past(b.Slot) {
		changes = append(changes, s.raise(pulled.Current, pulled.Final)...)
	}
	return changes, nil
}

// lay puts a block on its parent, if it may be there.
func (s *Store) lay(b api.Block) error {
	if b.Slot > s.Slot {
		return api.ErrFuture
	}
	if b.Root == 0 {
		return api.ErrArgument
	}
	if len(b.Votes) > api.MaxParts || len(b.Proofs) > api.MaxParts {
		return api.ErrFull
	}
	// The tree does not know any more what was cut off.
	if _, gone := s.gone[b.Root]; gone {
		return api.ErrTwice
	}
	return s.Tree.Add(b.Root, b.Parent, b.Slot)
}

// count is a block's ledger: its parent's, and its own votes.
func (s *Store) count(b api.Block, at ledger.Chain) ledger.State {
	state := ledger.Advance(s.Config, s.records[b.Parent].ledger, b.Slot, at)
	for _, v := range b.Votes {
		// One that does not count leaves the state as it is.
		state, _ = ledger.Count(s.Config, state, v, at)
	}
	return state
}

// takeParts takes a block's votes, and then its proofs; what is wrong with one of them stops neither the others nor the block.
func (s *Store) takeParts(b api.Block) []Change {
	var changes []Change
	for _, v := range b.Votes {
		moved, _ := s.attest(v, true)
		changes = append(changes, moved...)
	}
	for _, p := range b.Proofs {
		banned, _ := s.prove(p)
		changes = append(changes, banned...)
	}
	return changes
}

// raise has a justified and a final point be those of the store, if they are later, and of what is final.
func (s *Store) raise(justified, final api.Point) []Change {
	if justified.Epoch > s.Justified.Epoch && s.Tree.Below(justified.Root, s.Final.Root) {
		s.Justified = justified
	}
	if final.Epoch <= s.Final.Epoch || !s.Tree.Below(final.Root, s.Final.Root) {
		return nil
	}
	// What is justified must not be lost by what is final.
	if !s.Tree.Below(s.Justified.Root, final.Root) {
		return nil
	}
	s.Final = final
	s.cut(final.Root)
	return []Change{{Kind: Cut, Root: final.Root}}
}

// cut leaves away all but a block and what stands on it.
func (s *Store) cut(root uint64) {
	for _, off := range s.Tree.Cut(root) {
		delete(s.records, off)
		s.gone[off] = struct{}{}
	}
	if !s.Tree.Has(s.Boosted) {
		s.Boosted = 0
	}
}
