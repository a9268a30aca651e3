package wire

import (
	"psephos/api"
	"psephos/octet"
)

// Decode is the events of bytes; ErrForm, and the place where what is wrong begins, if they are none's.
func Decode(b []byte) ([]api.Event, int, error) {
	var es []api.Event
	r := reader{b: b}
	for r.at < len(b) {
		if len(es) == api.MaxEvents {
			return nil, r.at, api.ErrForm
		}
		e := r.event()
		if r.bad {
			return nil, r.at, api.ErrForm
		}
		es = append(es, e)
	}
	return es, r.at, nil
}

// reader goes through bytes number by number. Once a number is bad it stays where that one begins, and reads 0, so that only Decode has to ask.
type reader struct {
	b   []byte
	at  int
	bad bool
}

// whole reads a number that may be any.
func (r *reader) whole() uint64 {
	if r.bad {
		return 0
	}
	n, at, ok := octet.Get(r.b, r.at)
	r.at, r.bad = at, !ok
	return n
}

// small reads a number that may not be above some.
func (r *reader) small(most int) int {
	if r.bad {
		return 0
	}
	n, at, ok := octet.Small(r.b, r.at, most)
	r.at, r.bad = at, !ok
	return n
}

func (r *reader) event() api.Event {
	e := api.Event{Kind: api.EventKind(r.small(int(api.Slash)))}
	switch e.Kind {
	case api.Tick:
		e.Slot = r.small(api.MaxSlot)
	case api.Propose:
		e.Block = r.block()
	case api.Attest:
		e.Vote = r.vote()
	case api.Slash:
		e.Proof = r.proof()
	}
	return e
}

func (r *reader) block() api.Block {
	b := api.Block{Root: r.whole(), Parent: r.whole(), Slot: r.small(api.MaxSlot)}
	votes, proofs := r.small(api.MaxParts), r.small(api.MaxParts)
	for range votes {
		b.Votes = append(b.Votes, r.vote())
	}
	for range proofs {
		b.Proofs = append(b.Proofs, r.proof())
	}
	return b
}

func (r *reader) vote() api.Vote {
	v := api.Vote{Slot: r.small(api.MaxSlot), Head: r.whole(), Source: r.point(), Target: r.point()}
	// The list grows as its numbers come: bytes that tell many and have few get no room for many.
	for range r.small(api.MaxValidators) {
		v.Who = append(v.Who, r.small(api.MaxValidators-1))
		if r.bad {
			break
		}
	}
	return v
}

func (r *reader) point() api.Point {
	return api.Point{Epoch: r.small(api.MaxSlot), Root: r.whole()}
}

func (r *reader) proof() api.Proof {
	return api.Proof{A: r.vote(), B: r.vote()}
}
