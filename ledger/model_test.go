package ledger

import (
	"slices"
	"testing"

	"psephos/api"
	"psephos/justify"
)

// All of it, held against the document's own words, with lists of names in place of rows of bools.

// book is a state as the document tells it: who voted is a set.
type book struct {
	justify     justify.State
	epoch       int
	before, now map[int]int
}

func openBook(root uint64) book {
	p := api.Point{Root: root}
	return book{justify.State{Previous: p, Current: p, Final: p}, 0, map[int]int{}, map[int]int{}}
}

func enoughOf(c api.Config, voted map[int]int) bool {
	some, all := uint64(0), uint64(0)
	for v, balance := range c.Balances {
		all += balance
		some += balance * uint64(voted[v])
	}
	return all > 0 && 3*some >= 2*all
}

func pullBook(c api.Config, b book, at Chain) justify.State {
	if b.epoch < 2 {
		return b.justify
	}
	first := api.Point{Epoch: b.epoch - 1, Root: at((b.epoch - 1) * c.Slots)}
	second := api.Point{Epoch: b.epoch, Root: at(b.epoch * c.Slots)}
	return justify.Next(b.justify, b.epoch, enoughOf(c, b.before), enoughOf(c, b.now), first, second)
}

func advanceBook(c api.Config, b book, slot int, at Chain) book {
	for range 4096 {
		if b.epoch >= slot/c.Slots {
			break
		}
		b = book{pullBook(c, b, at), b.epoch + 1, b.now, map[int]int{}}
	}
	return b
}

func countBook(c api.Config, b book, v api.Vote, at Chain) (book, bool) {
	e := v.Slot / c.Slots
	if v.Target.Epoch != e || v.Target.Root != at(e*c.Slots) || v.Source.Epoch > e {
		return b, false
	}
	before, now := copyOf(b.before), copyOf(b.now)
	switch {
	case e == b.epoch && v.Source == b.justify.Current:
		for _, w := range v.Who {
			now[w] = 1
		}
	case e == b.epoch-1 && v.Source == b.justify.Previous:
		for _, w := range v.Who {
			before[w] = 1
		}
	default:
		return b, false
	}
	return book{b.justify, b.epoch, before, now}, true
}

func copyOf(voted map[int]int) map[int]int {
	out := map[int]int{}
	for v := range voted {
		out[v] = 1
	}
	return out
}

// row is a set as a state has it.
func row(c api.Config, voted map[int]int) []bool {
	out := make([]bool, len(c.Balances))
	for v := range voted {
		out[v] = true
	}
	return out
}

// dice is a row of numbers that hang on where it begins alone.
type dice uint64

func (d *dice) below(n int) int {
	*d = *d*6364136223846793005 + 1442695040888963407
	return int(uint64(*d>>33) % uint64(n))
}

// anyVote is one that is right but for its checkpoints, which are mostly those that count.
func anyVote(d *dice, c api.Config, b book, at Chain) api.Vote {
	e := max(b.epoch-d.below(3), 0)
	if d.below(10) == 0 {
		e = b.epoch + 1
	}
	v := api.Vote{
		Slot:   e*c.Slots + d.below(c.Slots),
		Head:   uint64(d.below(5)),
		Source: []api.Point{b.justify.Current, b.justify.Previous, b.justify.Final}[d.below(3)],
		Target: api.Point{Epoch: e, Root: at(e * c.Slots)},
	}
	if d.below(10) == 0 {
		v.Target.Root++
	}
	for w := range c.Balances {
		if d.below(3) > 0 {
			v.Who = append(v.Who, w)
		}
	}
	if len(v.Who) == 0 {
		v.Who = []int{d.below(len(c.Balances))}
	}
	return v
}

func TestAgainstTheBook(t *testing.T) {
	counted, justified, final := 0, 0, 0
	for seed := range 200 {
		d := dice(seed)
		c := api.Config{Slots: 1 + d.below(5)}
		for range 1 + d.below(7) {
			c.Balances = append(c.Balances, uint64(d.below(4)))
		}
		// Some slots have the block of the one ahead.
		at := func(slot int) uint64 { return uint64(slot - slot%3 + 7) }
		s, b, slot := Open(c, 7), openBook(7), 0
		for range 150 {
			if d.below(4) == 0 {
				slot += d.below(3 * c.Slots)
				s, b = Advance(c, s, slot, at), advanceBook(c, b, slot, at)
			} else {
				v := anyVote(&d, c, b, at)
				var ok, want bool
				s, ok = Count(c, s, v, at)
				b, want = countBook(c, b, v, at)
				if ok != want {
					t.Fatalf("seed %d, Count of %v: %v, want %v", seed, v, ok, want)
				}
				if ok {
					counted++
				}
			}
			checkBook(t, seed, c, s, b, at)
		}
		if s.Justify.Current.Epoch > 0 {
			justified++
		}
		if s.Justify.Final.Epoch > 0 {
			final++
		}
	}
	// Else it would say little.
	if counted < 1000 || justified < 100 || final < 50 {
		t.Errorf("%d votes counted, %d runs justified, %d made final", counted, justified, final)
	}
}

func checkBook(t *testing.T, seed int, c api.Config, s State, b book, at Chain) {
	t.Helper()
	if s.Justify != b.justify || s.Epoch != b.epoch || !slices.Equal(s.Before, row(c, b.before)) || !slices.Equal(s.Now, row(c, b.now)) {
		t.Fatalf("seed %d: %v, want %v", seed, s, b)
	}
	if got, want := Pull(c, s, at), pullBook(c, b, at); got != want {
		t.Fatalf("seed %d: Pull %v, want %v", seed, got, want)
	}
}
