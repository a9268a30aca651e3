package wire

import (
	"math"
	"reflect"
	"slices"
	"testing"

	"psephos/api"
)

// voted is a vote of which each part is unlike the others.
func voted(who ...int) api.Vote {
	return api.Vote{Slot: 9, Head: 3, Source: api.Point{Epoch: 1, Root: 4}, Target: api.Point{Epoch: 2, Root: 5}, Who: who}
}

func tick(slot int) api.Event          { return api.Event{Kind: api.Tick, Slot: slot} }
func propose(b api.Block) api.Event    { return api.Event{Kind: api.Propose, Block: b} }
func attest(v api.Vote) api.Event      { return api.Event{Kind: api.Attest, Vote: v} }
func slash(a, b api.Vote) api.Event    { return api.Event{Kind: api.Slash, Proof: api.Proof{A: a, B: b}} }
func repeat[T any](n int, x T) []T     { return slices.Repeat([]T{x}, n) }
func votesOf(vs ...api.Vote) api.Block { return api.Block{Root: 6, Parent: 1, Slot: 8, Votes: vs} }

func proofsOf(ps ...api.Proof) api.Block {
	return api.Block{Root: 6, Parent: 1, Slot: 8, Proofs: ps}
}

// full is an event that has all parts, of a kind.
func full(k api.EventKind) api.Event {
	p := api.Proof{A: voted(5, 6), B: voted(7)}
	b := api.Block{Root: 6, Parent: 1, Slot: 8, Votes: []api.Vote{voted(1, 2), voted()}, Proofs: []api.Proof{p}}
	return api.Event{Kind: k, Slot: 5, Block: b, Vote: voted(3, 4), Proof: p}
}

// timed is each event that has a slot or an epoch of n, and nothing else that may not be, by where that is.
func timed(n int) map[string]api.Event {
	slot, source, target := voted(1), voted(1), voted(1)
	slot.Slot, source.Source.Epoch, target.Target.Epoch = n, n, n
	out := map[string]api.Event{
		"a tick":  tick(n),
		"a block": propose(api.Block{Root: 6, Parent: 1, Slot: n}),
	}
	for part, v := range map[string]api.Vote{"slot": slot, "source": source, "target": target} {
		out["a vote's "+part] = attest(v)
		out["A's "+part] = slash(v, voted(1))
		out["B's "+part] = slash(voted(1), v)
		out["the "+part+" of a block's last vote"] = propose(votesOf(voted(), v))
		out["the "+part+" of a block's A"] = propose(proofsOf(api.Proof{A: v}))
		out["the "+part+" of a block's last B"] = propose(proofsOf(api.Proof{}, api.Proof{B: v}))
	}
	return out
}

// manned is each event that has these validators, and nothing else that may not be.
func manned(who ...int) map[string]api.Event {
	v := voted(who...)
	return map[string]api.Event{
		"a vote":              attest(v),
		"A":                   slash(v, voted()),
		"B":                   slash(voted(), v),
		"a block's last vote": propose(votesOf(voted(), v)),
		"a block's A":         propose(proofsOf(api.Proof{A: v})),
		"a block's last B":    propose(proofsOf(api.Proof{}, api.Proof{B: v})),
	}
}

type mayCase struct {
	name string
	e    api.Event
	want bool
}

// cases is all that P4.1's May, and with it P4.2's Encode, are asked of.
func cases() []mayCase {
	out := []mayCase{
		{"zero: a tick of 0", api.Event{}, true},
		{"a kind below all", full(-1), false},
		{"a kind above all", full(4), false},
		{"the least kind", full(math.MinInt), false},
		{"the greatest kind", full(math.MaxInt), false},
		{"a kind that is 0 in its low half", full(1 << 32), false},
		{"a block of 16 votes", propose(votesOf(repeat(16, voted(1))...)), true},
		{"a block of 17 votes", propose(votesOf(repeat(17, voted(1))...)), false},
		{"a block of 16 proofs", propose(proofsOf(repeat(16, api.Proof{A: voted(1)})...)), true},
		{"a block of 17 proofs", propose(proofsOf(repeat(17, api.Proof{A: voted(1)})...)), false},
		{"a block of 16 of both", propose(api.Block{Votes: repeat(16, voted()), Proofs: repeat(16, api.Proof{})}), true},
		{"a block of the greatest roots", propose(api.Block{Root: math.MaxUint64, Parent: math.MaxUint64}), true},
		{"a vote of the greatest roots", attest(api.Vote{Head: math.MaxUint64, Source: api.Point{Root: math.MaxUint64}, Target: api.Point{Root: math.MaxUint64}}), true},
		{"validators that fall", attest(voted(5, 3)), true},
		{"a validator twice", attest(voted(5, 5)), true},
	}
	for _, k := range []api.EventKind{api.Tick, api.Propose, api.Attest, api.Slash} {
		out = append(out, mayCase{"all parts", full(k), true})
	}
	for _, n := range []int{0, 1, api.MaxSlot - 1, api.MaxSlot, api.MaxSlot + 1, -1, math.MinInt, math.MaxInt} {
		for name, e := range timed(n) {
			out = append(out, mayCase{name, e, n >= 0 && n <= 1<<40})
		}
	}
	for _, n := range []int{0, 1, 4095, 4096, -1, math.MinInt, math.MaxInt} {
		for name, e := range manned(0, n) {
			out = append(out, mayCase{name + " with a validator", e, n >= 0 && n < 4096})
		}
		for name, e := range manned(n, 0) {
			out = append(out, mayCase{name + " with a validator ahead", e, n >= 0 && n < 4096})
		}
	}
	for _, n := range []int{0, 4096, 4097} {
		for name, e := range manned(repeat(n, 7)...) {
			out = append(out, mayCase{name + " of many validators", e, n <= 4096})
		}
	}
	return append(out, unread()...)
}

// unread is events with parts that may not be, and that do not count.
func unread() []mayCase {
	wrong := voted(-1)
	wrong.Slot = -1
	all := api.Event{Slot: -1, Block: votesOf(repeat(17, wrong)...), Vote: wrong, Proof: api.Proof{A: wrong, B: wrong}}
	t, p, a, s := all, all, all, all
	t.Kind, t.Slot = api.Tick, 5
	p.Kind, p.Block = api.Propose, votesOf(voted(1))
	a.Kind, a.Vote = api.Attest, voted(1)
	s.Kind, s.Proof = api.Slash, api.Proof{A: voted(1), B: voted(2)}
	return []mayCase{
		{"a tick beside wrong parts", t, true},
		{"a block beside wrong parts", p, true},
		{"a vote beside wrong parts", a, true},
		{"a proof beside wrong parts", s, true},
	}
}

// P4.1, May.

func TestMay(t *testing.T) {
	for _, x := range cases() {
		if got := May(x.e); got != x.want {
			t.Errorf("%s (kind %d): May: %v, want %v", x.name, x.e.Kind, got, x.want)
		}
	}
}

// P4.1, Bare.

func TestBareHasWhatItsKindHas(t *testing.T) {
	all := full(0)
	tests := []struct {
		name string
		kind api.EventKind
		want api.Event
	}{
		{"tick", api.Tick, api.Event{Kind: 0, Slot: all.Slot}},
		{"propose", api.Propose, api.Event{Kind: 1, Block: all.Block}},
		{"attest", api.Attest, api.Event{Kind: 2, Vote: all.Vote}},
		{"slash", api.Slash, api.Event{Kind: 3, Proof: all.Proof}},
		{"no kind, 4", 4, api.Event{Kind: 4}},
		{"no kind, -1", -1, api.Event{Kind: -1}},
		{"the least kind", math.MinInt, api.Event{Kind: math.MinInt}},
	}
	for _, x := range tests {
		if got := Bare(full(x.kind)); !same(got, x.want) {
			t.Errorf("%s: Bare: %v, want %v", x.name, got, x.want)
		}
		if got := Bare(Bare(full(x.kind))); !same(got, x.want) {
			t.Errorf("%s: Bare of a Bare: %v, want %v", x.name, got, x.want)
		}
	}
}

func TestBareKeepsWhatMayNotBe(t *testing.T) {
	for _, x := range cases() {
		if got := May(Bare(x.e)); got != x.want {
			t.Errorf("%s: May of its Bare: %v, want %v", x.name, got, x.want)
		}
	}
}

func TestBareIsNewMemory(t *testing.T) {
	for _, k := range []api.EventKind{api.Propose, api.Attest, api.Slash} {
		e, again := full(k), full(k)
		spoil(Bare(e))
		if !reflect.DeepEqual(e, again) {
			t.Errorf("kind %d: Bare's answer shares memory with what came in", k)
		}
	}
}

func TestBareOfOneVoteToldOften(t *testing.T) {
	v := voted(1, 2)
	e := Bare(propose(api.Block{Votes: repeat(2, v), Proofs: []api.Proof{{A: v, B: v}}}))
	e.Block.Votes[0].Who[0] = 99
	e.Block.Proofs[0].A.Who[1] = 98
	for _, got := range []api.Vote{e.Block.Votes[1], e.Block.Proofs[0].B, v} {
		if !slices.Equal(got.Who, []int{1, 2}) {
			t.Errorf("lists share memory: %v", got.Who)
		}
	}
}

// spoil writes into all lists of an event.
func spoil(e api.Event) {
	for _, vs := range [][]api.Vote{e.Block.Votes, {e.Vote, e.Proof.A, e.Proof.B}} {
		for i := range vs {
			spoilVote(&vs[i])
		}
	}
	for i := range e.Block.Proofs {
		spoilVote(&e.Block.Proofs[i].A)
		spoilVote(&e.Block.Proofs[i].B)
	}
}

func spoilVote(v *api.Vote) {
	for i := range v.Who {
		v.Who[i] = 999
	}
	v.Slot, v.Head = 999, 999
}

// same tells whether two events are, a list without things being nil or empty.
func same(a, b api.Event) bool {
	return a.Kind == b.Kind && a.Slot == b.Slot && sameVote(a.Vote, b.Vote) && sameProof(a.Proof, b.Proof) &&
		a.Block.Root == b.Block.Root && a.Block.Parent == b.Block.Parent && a.Block.Slot == b.Block.Slot &&
		slices.EqualFunc(a.Block.Votes, b.Block.Votes, sameVote) && slices.EqualFunc(a.Block.Proofs, b.Block.Proofs, sameProof)
}

func sameVote(a, b api.Vote) bool {
	return a.Slot == b.Slot && a.Head == b.Head && a.Source == b.Source && a.Target == b.Target && slices.Equal(a.Who, b.Who)
}

func sameProof(a, b api.Proof) bool { return sameVote(a.A, b.A) && sameVote(a.B, b.B) }
