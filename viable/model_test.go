package viable

import (
	"math/big"
	"testing"

	"psephos/api"
	"psephos/tree"
)

// All of it, held against the document's own words, with a list of parents in place of the tree, and numbers without a limit.

// book is the blocks' parents; the first one is its own.
type book map[uint64]uint64

// kids are the blocks but the first one whose parent one is.
func (b book) kids(root uint64) []uint64 {
	var kids []uint64
	for kid, parent := range b {
		if parent == root && kid != root {
			kids = append(kids, kid)
		}
	}
	return kids
}

func (b book) below(root, on uint64) bool {
	if _, ok := b[on]; !ok {
		return false
	}
	for root != on && b[root] != root {
		root = b[root]
	}
	return root == on
}

// may is of one block, by all blocks without Kids that are Below it.
func (b book) may(root uint64, v View) bool {
	for last := range b {
		if len(b.kids(last)) == 0 && b.below(last, root) && b.lets(last, v) {
			return true
		}
	}
	return false
}

// lets tells whether a block without Kids may.
func (b book) lets(last uint64, v View) bool {
	number, ok := v.Sources[last]
	if !ok {
		number = 0
	}
	behind := new(big.Int).Sub(big.NewInt(int64(v.Epoch)), big.NewInt(int64(number)))
	near := behind.Cmp(big.NewInt(2)) <= 0
	return (v.Justified.Epoch == 0 || number == v.Justified.Epoch || near) && b.below(last, v.Final.Root)
}

// dice is a row of numbers that hang on where it begins alone.
type dice uint64

func (d *dice) below(n int) int {
	*d = *d*6364136223846793005 + 1442695040888963407
	return int(uint64(*d>>33) % uint64(n))
}

// epoch is one of a few near a base, or, at times, the least or the greatest one.
func (d *dice) epoch(base int) int {
	switch d.below(12) {
	case 0:
		return least + d.below(3)
	case 1:
		return most - d.below(3)
	case 2:
		return 0
	}
	return base + d.below(9)
}

// deal is a book by dice, with the tree that it is of, and a view.
func deal(d *dice) (book, *tree.Tree, View) {
	b, x := book{0: 0}, tree.Of(0, 0)
	for k := range 1 + d.below(24) {
		root, parent := uint64(d.below(20)), x.Roots()[d.below(x.Len())]
		if x.Add(root, parent, k+1) == nil {
			b[root] = parent
		}
	}
	base := d.below(12) - 8
	v := View{
		Justified: api.Point{Epoch: d.epoch(base), Root: uint64(d.below(20))},
		Final:     api.Point{Epoch: d.epoch(base), Root: x.Roots()[d.below(min(3, x.Len()))]},
		Epoch:     d.epoch(base),
		Sources:   map[uint64]int{},
	}
	if d.below(9) == 0 {
		v.Final.Root = uint64(d.below(23))
	}
	for range d.below(40) {
		v.Sources[uint64(d.below(23))] = d.epoch(base)
	}
	return b, x, v
}

func TestAgainstTheBook(t *testing.T) {
	all, some, none := 0, 0, 0
	for seed := range 6000 {
		d := dice(seed)
		b, x, v := deal(&d)
		got := Of(x, v)
		count := 0
		for root := range uint64(23) {
			_, there := b[root]
			want := there && b.may(root, v)
			if want {
				count++
			}
			if is, told := got[root]; is != want || told != want {
				t.Fatalf("seed %d: %+v, parents %v: %d: %v, %v, want %v", seed, v, b, root, is, told, want)
			}
		}
		if len(got) != count {
			t.Fatalf("seed %d: %v, want %d of %v", seed, got, count, x.Roots())
		}
		switch count {
		case 0:
			none++
		case len(b):
			all++
		default:
			some++
		}
	}
	// Else it would say little.
	if all < 500 || some < 1500 || none < 500 {
		t.Errorf("all of %d trees, some of %d, none of %d", all, some, none)
	}
}
