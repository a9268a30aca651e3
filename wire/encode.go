package wire

import (
	"psephos/api"
	"psephos/octet"
)

// Encode is the bytes of events, one behind the other; false, if one has none, or they are too many.
func Encode(es ...api.Event) ([]byte, bool) {
	if len(es) > api.MaxEvents {
		return nil, false
	}
	// All numbers first, and one Put: a Put for each would copy all bytes ahead of it again.
	var ns []uint64
	for _, e := range es {
		if !May(e) {
			return nil, false
		}
		ns = layEvent(ns, e)
	}
	return octet.Put(nil, ns...), true
}

func layEvent(ns []uint64, e api.Event) []uint64 {
	ns = append(ns, uint64(e.Kind))
	switch e.Kind {
	case api.Propose:
		return layBlock(ns, e.Block)
	case api.Attest:
		return layVote(ns, e.Vote)
	case api.Slash:
		return layProof(ns, e.Proof)
	}
	return append(ns, uint64(e.Slot))
}

func layBlock(ns []uint64, b api.Block) []uint64 {
	ns = append(ns, b.Root, b.Parent, uint64(b.Slot), uint64(len(b.Votes)), uint64(len(b.Proofs)))
	for _, v := range b.Votes {
		ns = layVote(ns, v)
	}
	for _, p := range b.Proofs {
		ns = layProof(ns, p)
	}
	return ns
}

func layVote(ns []uint64, v api.Vote) []uint64 {
	ns = append(ns, uint64(v.Slot), v.Head)
	ns = append(ns, uint64(v.Source.Epoch), v.Source.Root)
	ns = append(ns, uint64(v.Target.Epoch), v.Target.Root)
	ns = append(ns, uint64(len(v.Who)))
	for _, w := range v.Who {
		ns = append(ns, uint64(w))
	}
	return ns
}

func layProof(ns []uint64, p api.Proof) []uint64 {
	return layVote(layVote(ns, p.A), p.B)
}
