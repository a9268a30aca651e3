package weight

import (
	"slices"
	"testing"

	"psephos/api"
	"psephos/latest"
	"psephos/tree"
)

// All of it, held against the document's own words, with a list of parents in place of the tree, and one vote behind the other.

// book is the blocks' parents (the first one is its own), the last vote of each validator that has one, whom it bans, and the configuration.
type book struct {
	parents map[uint64]uint64
	last    map[int]uint64
	banned  map[int]int
	c       api.Config
}

// under is the parents of a block down to the first one, itself ahead of them; nothing of one that is not there.
func (b *book) under(root uint64) []uint64 {
	parent, ok := b.parents[root]
	if !ok {
		return nil
	}
	if parent == root {
		return []uint64{root}
	}
	return append([]uint64{root}, b.under(parent)...)
}

func (b *book) of(boosted, root uint64) uint64 {
	sum := uint64(0)
	for who, balance := range b.c.Balances {
		on, ok := b.last[who]
		if ok && b.banned[who] == 0 && slices.Contains(b.under(on), root) {
			sum += balance
		}
	}
	if slices.Contains(b.under(boosted), root) {
		all := uint64(0)
		for _, balance := range b.c.Balances {
			all += balance
		}
		sum += all / uint64(b.c.Slots) * uint64(b.c.Boost) / 100
	}
	return sum
}

// best is of a list's roots by a sort of them.
func best(of func(uint64) uint64, roots []uint64) (uint64, bool) {
	sorted := slices.Clone(roots)
	slices.SortFunc(sorted, func(a, b uint64) int {
		switch x, y := of(a), of(b); {
		case x > y || x == y && a > b:
			return -1
		case x < y || x == y && a < b:
			return 1
		}
		return 0
	})
	if len(sorted) == 0 {
		return 0, false
	}
	return sorted[0], true
}

// dice is a row of numbers that hang on where it begins alone.
type dice uint64

func (d *dice) below(n int) int {
	*d = *d*6364136223846793005 + 1442695040888963407
	return int(uint64(*d>>33) % uint64(n))
}

// deal is a book by dice, with the tree and the votes that it is of.
func deal(d *dice) (*book, *tree.Tree, latest.Votes) {
	b := &book{map[uint64]uint64{0: 0}, map[int]uint64{}, map[int]int{}, api.Config{Slots: 1 + d.below(5), Boost: d.below(3) * 50}}
	for range 2 + d.below(9) {
		b.c.Balances = append(b.c.Balances, uint64(d.below(4)))
	}
	x, v := tree.Of(0, 0), latest.Of(2+d.below(9))
	for k := range 5 + d.below(30) {
		root, parent := uint64(d.below(20)), x.Roots()[d.below(x.Len())]
		if x.Add(root, parent, k+1) == nil {
			b.parents[root] = parent
		}
	}
	for epoch := range d.below(30) {
		who, root := d.below(12), uint64(d.below(22))
		if v.Take(who, epoch, root) {
			b.last[who] = root
		}
		if k := d.below(100); v.Ban(k) {
			b.banned[k]++
		}
	}
	return b, x, v
}

func TestAgainstTheBook(t *testing.T) {
	weighed, none, boosts, ties := 0, 0, 0, 0
	for seed := range 3000 {
		d := dice(seed)
		b, x, v := deal(&d)
		boosted := uint64(d.below(22))
		of := func(root uint64) uint64 { return Of(b.c, x, v, boosted, root) }
		for root := range uint64(23) {
			want := b.of(boosted, root)
			if got := of(root); got != want {
				t.Fatalf("seed %d: of %d, %d boosted: %d, want %d", seed, root, boosted, got, want)
			}
			switch {
			case want == 0:
				none++
			case want != b.of(99, root):
				boosts++
			default:
				weighed++
			}
		}
		var roots []uint64
		for range d.below(7) {
			roots = append(roots, uint64(d.below(23)))
		}
		got, ok := Best(of, roots...)
		want, has := best(of, roots)
		if got != want || ok != has {
			t.Fatalf("seed %d: Best of %v: %d, %v, want %d, %v", seed, roots, got, ok, want, has)
		}
		for _, root := range roots {
			if root != got && of(root) == of(got) && of(got) > 0 {
				ties++
			}
		}
	}
	// Else it would say little.
	if weighed < 2000 || none < 2000 || boosts < 2000 || ties < 100 {
		t.Errorf("%d weighed, %d had nothing, %d with a boost, %d ties", weighed, none, boosts, ties)
	}
}
