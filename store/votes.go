package store

import (
	"psephos/api"
	"psephos/epoch"
	"psephos/slash"
	"psephos/vote"
)

// attest takes a vote, one by itself or one of a block, as the last one of those of whom it is.
func (s *Store) attest(v api.Vote, ofBlock bool) ([]Change, error) {
	if err := s.untimely(v, ofBlock); err != nil {
		return nil, err
	}
	if err := s.astray(v); err != nil {
		return nil, err
	}
	var changes []Change
	for _, who := range v.Who {
		from, had := s.Votes.Get(who)
		if s.Votes.Take(who, v.Target.Epoch, v.Head) {
			changes = append(changes, Change{Kind: Moved, Root: v.Head, Who: who, From: from, Had: had})
		}
	}
	return changes, nil
}

// untimely is what is wrong with a vote that may not be, or not at this time: one of a block may be late, and of the slot that it is.
func (s *Store) untimely(v api.Vote, ofBlock bool) error {
	if !vote.Right(s.Config, v) {
		return api.ErrVote
	}
	if v.Slot > s.Slot || v.Slot == s.Slot && !ofBlock {
		return api.ErrFuture
	}
	if v.Target.Epoch < s.now()-1 && !ofBlock {
		return api.ErrPast
	}
	return nil
}

// astray is what is wrong with a vote whose head is not there, or was not at its slot, or whose target is not that of its head.
func (s *Store) astray(v api.Vote) error {
	_, slot, _, ok := s.Tree.Get(v.Head)
	if !ok || slot > v.Slot {
		return api.ErrHead
	}
	at := s.chain(v.Head)
	if v.Target.Root != at(epoch.Start(v.Target.Epoch, s.Config.Slots)) {
		return api.ErrVote
	}
	return nil
}

// prove takes a proof: whom it shows, their votes count no more.
func (s *Store) prove(p api.Proof) ([]Change, error) {
	shown, err := slash.Who(s.Config, p)
	if err != nil {
		return nil, err
	}
	var changes []Change
	for _, who := range shown {
		from, had := s.Votes.Get(who)
		if s.Votes.Ban(who) {
			changes = append(changes, Change{Kind: Banned, Who: who, From: from, Had: had})
		}
	}
	return changes, nil
}
