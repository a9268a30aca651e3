package tree

import (
	"errors"
	"math"
	"reflect"
	"slices"
	"testing"

	"psephos/api"
)

const (
	least = math.MinInt
	most  = math.MaxInt
)

// node is a block that is to be added.
type node struct {
	root, parent uint64
	slot         int
}

// seen is all that Get and Kids tell of a block.
type seen struct {
	parent       uint64
	slot, height int
	kids         []uint64
}

// view is all that a tree shows of itself, block by block.
type view struct {
	first  uint64
	count  int
	roots  []uint64
	blocks map[uint64]seen
}

// look is what a tree shows; a list without things is nil there.
func look(t *testing.T, x *Tree) view {
	t.Helper()
	v := view{first: x.First(), count: x.Len(), roots: x.Roots(), blocks: map[uint64]seen{}}
	for _, root := range v.roots {
		parent, slot, height, ok := x.Get(root)
		if !ok || !x.Has(root) {
			t.Errorf("%d is one of Roots, but Get: %v, Has: %v", root, ok, x.Has(root))
		}
		v.blocks[root] = seen{parent, slot, height, bare(x.Kids(root))}
	}
	return v
}

// bare is a list, or nil, if it is empty.
func bare(list []uint64) []uint64 {
	if len(list) == 0 {
		return nil
	}
	return list
}

// add lays blocks that are all to be taken.
func add(t *testing.T, x *Tree, nodes ...node) {
	t.Helper()
	for _, n := range nodes {
		if err := x.Add(n.root, n.parent, n.slot); err != nil {
			t.Fatalf("Add(%d, %d, %d): %v, want nil", n.root, n.parent, n.slot, err)
		}
	}
}

// example is the chapter's tree.
func example(t *testing.T) *Tree {
	t.Helper()
	x := Of(1, 0)
	add(t, x, node{2, 1, 3}, node{3, 2, 5}, node{4, 1, 4})
	return x
}

// wide is a tree of forks on forks, whose roots do not rise as they come:
//
//	50 at 10 - 30 at 12 - 90 at 15 - 10 at 20
//	         |          |          ` 95 at 16
//	         |          ` 20 at 13
//	         ` 70 at 11 - 60 at 30
//	         ` 40 at 14
func wide(t *testing.T) *Tree {
	t.Helper()
	x := Of(50, 10)
	add(t, x, node{70, 50, 11}, node{30, 50, 12}, node{90, 30, 15}, node{60, 70, 30},
		node{40, 50, 14}, node{10, 90, 20}, node{20, 30, 13}, node{95, 90, 16})
	return x
}

// line is blocks on one another, from 1 at slot 0 on, so many in all.
func line(t *testing.T, count int) *Tree {
	t.Helper()
	x := Of(1, 0)
	for n := 2; n <= count; n++ {
		add(t, x, node{uint64(n), uint64(n - 1), n - 1})
	}
	return x
}

// star is blocks that all stand on 1, so many in all; they come falling.
func star(t *testing.T, count int) *Tree {
	t.Helper()
	x := Of(1, 0)
	for n := count; n >= 2; n-- {
		add(t, x, node{uint64(n), 1, 7})
	}
	return x
}

// upTo is the numbers from one to another one.
func upTo(from, to uint64) []uint64 {
	var ns []uint64
	for n := from; n <= to; n++ {
		ns = append(ns, n)
	}
	return ns
}

func checkList(t *testing.T, name string, got []uint64, want ...uint64) {
	t.Helper()
	if !slices.Equal(got, want) {
		t.Errorf("%s: %v, want %v", name, got, want)
	}
}

func checkGet(t *testing.T, x *Tree, root, parent uint64, slot, height int) {
	t.Helper()
	p, s, h, ok := x.Get(root)
	if p != parent || s != slot || h != height || !ok {
		t.Errorf("Get(%d): %d, %d, %d, %v, want %d, %d, %d, true", root, p, s, h, ok, parent, slot, height)
	}
}

// checkGone asks a tree by all its calls for a block that is not there.
func checkGone(t *testing.T, x *Tree, root uint64) {
	t.Helper()
	if x.Has(root) {
		t.Errorf("Has(%d): true, want false", root)
	}
	if p, s, h, ok := x.Get(root); p != 0 || s != 0 || h != 0 || ok {
		t.Errorf("Get(%d): %d, %d, %d, %v, want 0, 0, 0, false", root, p, s, h, ok)
	}
	for _, slot := range []int{least, -1, 0, 1, 100, most} {
		if got := x.At(root, slot); got != 0 {
			t.Errorf("At(%d, %d): %d, want 0", root, slot, got)
		}
	}
	if x.Below(root, root) || x.Below(root, x.First()) || x.Below(x.First(), root) {
		t.Errorf("Below: %d is not there, and yet it stands, or is stood on", root)
	}
	if got := x.Kids(root); len(got) != 0 {
		t.Errorf("Kids(%d): %v, want none", root, got)
	}
	if slices.Contains(x.Roots(), root) {
		t.Errorf("Roots: %v, with %d", x.Roots(), root)
	}
}

func checkBelow(t *testing.T, x *Tree, root, on uint64, want bool) {
	t.Helper()
	if got := x.Below(root, on); got != want {
		t.Errorf("Below(%d, %d): %v, want %v", root, on, got, want)
	}
}

// refuse adds what is not to be taken, and holds the tree against what it was.
func refuse(t *testing.T, name string, x *Tree, n node, want api.Errno) {
	t.Helper()
	was := look(t, x)
	if err := x.Add(n.root, n.parent, n.slot); !errors.Is(err, want) || api.Number(err) != want {
		t.Errorf("%s: Add(%d, %d, %d): %v, want %v", name, n.root, n.parent, n.slot, err, want)
	}
	if is := look(t, x); !reflect.DeepEqual(is, was) {
		t.Errorf("%s: Add(%d, %d, %d) changed the tree: %v, it was %v", name, n.root, n.parent, n.slot, is, was)
	}
}

// The chapter's example.

func TestExample(t *testing.T) {
	x := example(t)
	if got := x.At(3, 4); got != 2 {
		t.Errorf("At(3, 4): %d, want 2", got)
	}
	checkBelow(t, x, 3, 4, false)
	checkList(t, "Cut(2)", x.Cut(2), 1, 4)
	if x.First() != 2 {
		t.Errorf("First: %d, want 2", x.First())
	}
}

// P9.1, Of: the first block alone, of any root and slot; its parent is itself.

func TestFirstBlockAlone(t *testing.T) {
	for _, root := range []uint64{0, 1, 7, math.MaxUint64} {
		for _, slot := range []int{0, 1, -1, 100, api.MaxSlot + 1, least, most} {
			x := Of(root, slot)
			if x.First() != root || x.Len() != 1 || !x.Has(root) {
				t.Errorf("Of(%d, %d): First %d, Len %d, Has %v", root, slot, x.First(), x.Len(), x.Has(root))
			}
			checkGet(t, x, root, root, slot, 0)
			checkList(t, "Roots", x.Roots(), root)
			checkList(t, "Kids", x.Kids(root))
			checkBelow(t, x, root, root, true)
			for _, s := range []int{least, slot - 1, slot, slot + 1, most} {
				if got := x.At(root, s); got != root {
					t.Errorf("Of(%d, %d): At(%d, %d): %d, want %d", root, slot, root, s, got, root)
				}
			}
			checkGone(t, x, root+1)
			checkList(t, "Cut", x.Cut(root))
			checkGet(t, x, root, root, slot, 0)
		}
	}
}

// P9.1, Add: the block is there, on its parent.

func TestAdd(t *testing.T) {
	x := example(t)
	if x.First() != 1 || x.Len() != 4 {
		t.Errorf("First %d, Len %d, want 1, 4", x.First(), x.Len())
	}
	checkList(t, "Roots", x.Roots(), 1, 2, 3, 4)
	checkGet(t, x, 1, 1, 0, 0)
	checkGet(t, x, 2, 1, 3, 1)
	checkGet(t, x, 3, 2, 5, 2)
	checkGet(t, x, 4, 1, 4, 1)
	checkList(t, "Kids(1)", x.Kids(1), 2, 4)
	checkList(t, "Kids(2)", x.Kids(2), 3)
	checkList(t, "Kids(3)", x.Kids(3))
	checkList(t, "Kids(4)", x.Kids(4))
	for _, root := range []uint64{0, 5, math.MaxUint64} {
		checkGone(t, x, root)
	}
}

// Each block changes Len by one, and nothing of those that are not its parent.
func TestAddOneByOne(t *testing.T) {
	x := Of(5, 0)
	was := look(t, x)
	for i, n := range []node{{3, 5, 1}, {9, 5, 1}, {7, 9, 2}, {1, 3, 9}, {4, 7, 8}} {
		if x.Has(n.root) {
			t.Errorf("Has(%d) ahead of Add", n.root)
		}
		add(t, x, n)
		is := look(t, x)
		if is.count != i+2 || is.first != 5 {
			t.Errorf("behind %v: Len %d, First %d, want %d, 5", n, is.count, is.first, i+2)
		}
		for root, b := range was.blocks {
			if root != n.parent && !reflect.DeepEqual(is.blocks[root], b) {
				t.Errorf("behind %v: %d is %v, it was %v", n, root, is.blocks[root], b)
			}
		}
		was = is
	}
}

// P9.1, Add's four errors, each alone.

func TestAddErrorsAlone(t *testing.T) {
	x := example(t)
	refuse(t, "the first block twice", x, node{1, 3, 9}, api.ErrTwice)
	refuse(t, "a block twice, as it was", x, node{3, 2, 5}, api.ErrTwice)
	refuse(t, "a block twice, on another one", x, node{3, 1, 9}, api.ErrTwice)
	refuse(t, "a block twice, on itself", x, node{3, 3, 9}, api.ErrTwice)
	refuse(t, "no such parent", x, node{9, 8, 9}, api.ErrParent)
	refuse(t, "no such parent, root 0", x, node{9, 0, 9}, api.ErrParent)
	refuse(t, "itself as its parent", x, node{9, 9, 9}, api.ErrParent)
	refuse(t, "the parent's slot", x, node{9, 3, 5}, api.ErrSlot)
	refuse(t, "below the parent's slot", x, node{9, 3, 4}, api.ErrSlot)
	refuse(t, "below the parent's slot, above that one's parent's", x, node{9, 2, 1}, api.ErrSlot)
	refuse(t, "full", line(t, api.MaxBlocks), node{5000, 1, 5000}, api.ErrFull)
	refuse(t, "full, on the last one", line(t, api.MaxBlocks), node{5000, api.MaxBlocks, 5000}, api.ErrFull)
	refuse(t, "full of a star", star(t, api.MaxBlocks), node{5000, 2, 5000}, api.ErrFull)
}

// P9.1, the first of several errors is told.

func TestAddFirstError(t *testing.T) {
	x, full := example(t), line(t, api.MaxBlocks)
	refuse(t, "twice, no parent", x, node{3, 8, 9}, api.ErrTwice)
	refuse(t, "twice, the parent's slot", x, node{4, 3, 5}, api.ErrTwice)
	refuse(t, "twice, below the parent's slot", x, node{4, 3, least}, api.ErrTwice)
	refuse(t, "twice, on itself at its slot", x, node{3, 3, 5}, api.ErrTwice)
	refuse(t, "no parent, a slot below all", x, node{9, 8, least}, api.ErrParent)
	refuse(t, "no parent, slot 0", x, node{9, 8, 0}, api.ErrParent)
	refuse(t, "twice, full", full, node{3, 1, 5000}, api.ErrTwice)
	refuse(t, "twice, no parent, full", full, node{3, 5000, 5000}, api.ErrTwice)
	refuse(t, "twice, slot, full", full, node{3, 4, 3}, api.ErrTwice)
	refuse(t, "no parent, full", full, node{5000, 5001, 5000}, api.ErrParent)
	refuse(t, "no parent, a slot below all, full", full, node{5000, 5001, least}, api.ErrParent)
	refuse(t, "slot, full", full, node{5000, 4, 3}, api.ErrSlot)
	refuse(t, "below, full", full, node{5000, 4, 2}, api.ErrSlot)
}

// What was not taken may come later, as it should be.
func TestAddBehindAnError(t *testing.T) {
	x := example(t)
	refuse(t, "no parent", x, node{9, 8, 9}, api.ErrParent)
	refuse(t, "slot", x, node{8, 3, 5}, api.ErrSlot)
	add(t, x, node{8, 3, 6}, node{9, 8, 9})
	checkGet(t, x, 8, 3, 6, 3)
	checkGet(t, x, 9, 8, 9, 4)
}

// P9.1, slots: the parent's, one above and one below it, wherever that is.

func TestSlotsNextToTheParents(t *testing.T) {
	for _, slot := range []int{0, 1, -1, -5, 100, api.MaxSlot, api.MaxSlot + 1, least + 1, most - 1} {
		x := Of(1, slot)
		refuse(t, "one below", x, node{2, 1, slot - 1}, api.ErrSlot)
		refuse(t, "the same", x, node{2, 1, slot}, api.ErrSlot)
		refuse(t, "the least", x, node{2, 1, least}, api.ErrSlot)
		add(t, x, node{2, 1, slot + 1}, node{3, 1, most})
		checkGet(t, x, 2, 1, slot+1, 1)
		checkGet(t, x, 3, 1, most, 1)
		refuse(t, "the same, one higher", x, node{4, 2, slot + 1}, api.ErrSlot)
		refuse(t, "above the first one's, on a later one", x, node{4, 3, slot + 1}, api.ErrSlot)
	}
}

func TestSlotsAtTheEnds(t *testing.T) {
	x := Of(1, least)
	refuse(t, "the least on the least", x, node{2, 1, least}, api.ErrSlot)
	add(t, x, node{2, 1, least + 1}, node{3, 2, -1}, node{4, 3, 0}, node{5, 4, most})
	for _, slot := range []int{most, most - 1, 0, -1, least} {
		refuse(t, "nothing is above the greatest", x, node{6, 5, slot}, api.ErrSlot)
	}
	add(t, x, node{6, 4, most})
	checkGet(t, x, 5, 4, most, 4)
	checkGet(t, x, 2, 1, least+1, 1)
	for _, y := range []struct {
		slot int
		want uint64
	}{{most, 5}, {most - 1, 4}, {0, 4}, {-1, 3}, {-2, 2}, {least + 1, 2}, {least, 1}} {
		if got := x.At(5, y.slot); got != y.want {
			t.Errorf("At(5, %d): %d, want %d", y.slot, got, y.want)
		}
	}
}

// P9.1, 1024 blocks and one more.

func TestFull(t *testing.T) {
	const limit = 1024
	for _, y := range []struct {
		name string
		x    *Tree
	}{{"line", line(t, limit-1)}, {"star", star(t, limit-1)}} {
		add(t, y.x, node{limit, 1, 1})
		if y.x.Len() != limit {
			t.Errorf("%s: Len %d, want %d", y.name, y.x.Len(), limit)
		}
		refuse(t, y.name, y.x, node{limit + 1, 1, most}, api.ErrFull)
		checkGone(t, y.x, limit+1)
		checkList(t, y.name, y.x.Roots(), upTo(1, limit)...)
	}
}

func TestLongLine(t *testing.T) {
	const limit = api.MaxBlocks
	x := line(t, limit)
	for n := 1; n <= limit; n++ {
		parent := uint64(max(n-1, 1))
		checkGet(t, x, uint64(n), parent, n-1, n-1)
		checkBelow(t, x, limit, uint64(n), true)
		checkBelow(t, x, uint64(n), limit, n == limit)
		if got := x.At(limit, n-1); got != uint64(n) {
			t.Errorf("At(%d, %d): %d, want %d", limit, n-1, got, n)
		}
	}
	checkList(t, "Kids of the last", x.Kids(limit))
	checkList(t, "Kids in the midst", x.Kids(500), 501)
}

func TestWideStar(t *testing.T) {
	const limit = api.MaxBlocks
	x := star(t, limit)
	checkList(t, "Kids(1)", x.Kids(1), upTo(2, limit)...)
	checkGet(t, x, 2, 1, 7, 1)
	checkGet(t, x, limit, 1, 7, 1)
	checkBelow(t, x, 2, 1, true)
	checkBelow(t, x, 2, 3, false)
	checkBelow(t, x, 3, 2, false)
	gone := append([]uint64{1, 2}, upTo(4, limit)...)
	checkList(t, "Cut(3)", x.Cut(3), gone...)
	checkGet(t, x, 3, 3, 7, 0)
}

// Root 0 is a block like any other.

func TestRootZeroFirst(t *testing.T) {
	x := Of(0, 2)
	refuse(t, "root 0 twice", x, node{0, 0, 9}, api.ErrTwice)
	add(t, x, node{5, 0, 3}, node{4, 0, 4}, node{6, 5, 5})
	checkGet(t, x, 0, 0, 2, 0)
	checkGet(t, x, 5, 0, 3, 1)
	checkList(t, "Roots", x.Roots(), 0, 4, 5, 6)
	checkList(t, "Kids(0)", x.Kids(0), 4, 5)
	checkBelow(t, x, 6, 0, true)
	checkBelow(t, x, 0, 6, false)
	checkList(t, "Cut(5)", x.Cut(5), 0, 4)
	checkGone(t, x, 0)
}

func TestRootZeroInTheMidst(t *testing.T) {
	x := Of(1, 0)
	checkGone(t, x, 0)
	refuse(t, "on root 0, which is not there", x, node{2, 0, 9}, api.ErrParent)
	add(t, x, node{0, 1, 3}, node{2, 0, 5}, node{3, 1, 2})
	refuse(t, "root 0 twice", x, node{0, 1, 9}, api.ErrTwice)
	checkGet(t, x, 0, 1, 3, 1)
	checkGet(t, x, 2, 0, 5, 2)
	checkList(t, "Kids(1)", x.Kids(1), 0, 3)
	checkList(t, "Kids(0)", x.Kids(0), 2)
	if x.At(2, 4) != 0 || x.At(2, 2) != 1 || x.At(0, 3) != 0 || x.At(0, 2) != 1 {
		t.Errorf("At: %d, %d, %d, %d, want 0, 1, 0, 1", x.At(2, 4), x.At(2, 2), x.At(0, 3), x.At(0, 2))
	}
	checkBelow(t, x, 2, 0, true)
	checkBelow(t, x, 3, 0, false)
	checkList(t, "Cut(0)", x.Cut(0), 1, 3)
	checkGet(t, x, 0, 0, 3, 0)
	checkGet(t, x, 2, 0, 5, 1)
	if x.First() != 0 || x.Len() != 2 {
		t.Errorf("First %d, Len %d, want 0, 2", x.First(), x.Len())
	}
}

// P9.1, Roots and Kids rise, whatever the order in which blocks came.

// orders are all orders of some roots.
func orders(roots []uint64) [][]uint64 {
	if len(roots) == 0 {
		return [][]uint64{nil}
	}
	var all [][]uint64
	for i, root := range roots {
		rest := slices.Delete(slices.Clone(roots), i, i+1)
		for _, order := range orders(rest) {
			all = append(all, append([]uint64{root}, order...))
		}
	}
	return all
}

func TestRising(t *testing.T) {
	for _, order := range orders([]uint64{0, 3, 1 << 40, 1 << 63, math.MaxUint64}) {
		x := Of(9, 0)
		for i, root := range order {
			add(t, x, node{root, 9, 10 - i})
		}
		checkList(t, "Roots", x.Roots(), 0, 3, 9, 1<<40, 1<<63, math.MaxUint64)
		checkList(t, "Kids", x.Kids(9), 0, 3, 1<<40, 1<<63, math.MaxUint64)
		checkList(t, "Cut", x.Cut(1<<40), 0, 3, 9, 1<<63, math.MaxUint64)
	}
}

func TestForks(t *testing.T) {
	x := wide(t)
	checkList(t, "Roots", x.Roots(), 10, 20, 30, 40, 50, 60, 70, 90, 95)
	checkList(t, "Kids(50)", x.Kids(50), 30, 40, 70)
	checkList(t, "Kids(30)", x.Kids(30), 20, 90)
	checkList(t, "Kids(90)", x.Kids(90), 10, 95)
	checkList(t, "Kids(70)", x.Kids(70), 60)
	for _, leaf := range []uint64{10, 20, 40, 60, 95} {
		checkList(t, "Kids of a leaf", x.Kids(leaf))
	}
	checkGet(t, x, 10, 90, 20, 3)
	checkGet(t, x, 95, 90, 16, 3)
	checkGet(t, x, 90, 30, 15, 2)
	checkGet(t, x, 60, 70, 30, 2)
	for _, root := range []uint64{0, 1, 49, 51, 96, math.MaxUint64} {
		checkGone(t, x, root)
	}
}

// P9.2, At.

func TestAt(t *testing.T) {
	x := wide(t)
	tests := []struct {
		name string
		root uint64
		slot int
		want uint64
	}{
		{"its own slot", 10, 20, 10},
		{"above its slot", 10, 21, 10},
		{"above all", 10, most, 10},
		{"one below its slot", 10, 19, 90},
		{"its parent's slot", 10, 15, 90},
		{"one below its parent's slot", 10, 14, 30},
		{"between", 10, 13, 30},
		{"that one's parent's slot", 10, 12, 30},
		{"below that", 10, 11, 50},
		{"the first one's slot", 10, 10, 50},
		{"below all", 10, 9, 50},
		{"0", 10, 0, 50},
		{"below 0", 10, -1, 50},
		{"the least", 10, least, 50},
		{"in the midst", 90, 15, 90},
		{"in the midst, above, though one stands on it", 90, 20, 90},
		{"in the midst, below", 90, 14, 30},
		{"another branch", 60, 29, 70},
		{"another branch, above", 60, 30, 60},
		{"another branch, below", 60, 10, 50},
		{"a leaf at the first one", 40, 13, 50},
		{"a leaf", 40, 14, 40},
		{"the first one", 50, 10, 50},
		{"the first one, above", 50, most, 50},
		{"the first one, below", 50, 9, 50},
		{"the first one, the least", 50, least, 50},
		{"not there", 99, 20, 0},
		{"not there, root 0", 0, 20, 0},
	}
	for _, y := range tests {
		if got := x.At(y.root, y.slot); got != y.want {
			t.Errorf("%s: At(%d, %d): %d, want %d", y.name, y.root, y.slot, got, y.want)
		}
	}
}

// P9.2, Below: of all blocks, and of some that are not there.

func TestBelow(t *testing.T) {
	x := wide(t)
	stood := map[uint64][]uint64{
		50: {50},
		70: {70, 50},
		30: {30, 50},
		40: {40, 50},
		60: {60, 70, 50},
		90: {90, 30, 50},
		20: {20, 30, 50},
		10: {10, 90, 30, 50},
		95: {95, 90, 30, 50},
	}
	roots := append(x.Roots(), 0, 1, 99)
	for _, root := range roots {
		for _, on := range roots {
			checkBelow(t, x, root, on, slices.Contains(stood[root], on))
		}
	}
}

// P9.3, Cut.

func TestCutNotThere(t *testing.T) {
	x := wide(t)
	was := look(t, x)
	for _, root := range []uint64{0, 1, 99, math.MaxUint64} {
		if gone := x.Cut(root); len(gone) != 0 {
			t.Errorf("Cut(%d): %v, want none", root, gone)
		}
		if is := look(t, x); !reflect.DeepEqual(is, was) {
			t.Errorf("Cut(%d) changed the tree: %v, it was %v", root, is, was)
		}
	}
}

func TestCutFirst(t *testing.T) {
	x := wide(t)
	was := look(t, x)
	if gone := x.Cut(50); len(gone) != 0 {
		t.Errorf("Cut(50): %v, want none", gone)
	}
	if is := look(t, x); !reflect.DeepEqual(is, was) {
		t.Errorf("Cut(50) changed the tree: %v, it was %v", is, was)
	}
}

func TestCutLeaf(t *testing.T) {
	x := wide(t)
	checkList(t, "Cut(20)", x.Cut(20), 10, 30, 40, 50, 60, 70, 90, 95)
	want := view{first: 20, count: 1, roots: []uint64{20}, blocks: map[uint64]seen{20: {20, 13, 0, nil}}}
	if is := look(t, x); !reflect.DeepEqual(is, want) {
		t.Errorf("Cut(20): %v, want %v", is, want)
	}
	for _, root := range []uint64{10, 30, 40, 50, 60, 70, 90, 95} {
		checkGone(t, x, root)
	}
	if x.At(20, 0) != 20 || x.At(20, 99) != 20 {
		t.Errorf("At: %d, %d, want 20, 20", x.At(20, 0), x.At(20, 99))
	}
	checkBelow(t, x, 20, 20, true)
}

func TestCutInTheMidst(t *testing.T) {
	x := wide(t)
	checkList(t, "Cut(30)", x.Cut(30), 40, 50, 60, 70)
	want := view{
		first: 30, count: 5, roots: []uint64{10, 20, 30, 90, 95},
		blocks: map[uint64]seen{
			30: {30, 12, 0, []uint64{20, 90}},
			20: {30, 13, 1, nil},
			90: {30, 15, 1, []uint64{10, 95}},
			10: {90, 20, 2, nil},
			95: {90, 16, 2, nil},
		},
	}
	if is := look(t, x); !reflect.DeepEqual(is, want) {
		t.Errorf("Cut(30): %v, want %v", is, want)
	}
	for _, root := range []uint64{40, 50, 60, 70} {
		checkGone(t, x, root)
	}
	for _, y := range []struct {
		root uint64
		slot int
		want uint64
	}{{10, 20, 10}, {10, 19, 90}, {10, 14, 30}, {10, 12, 30}, {10, 11, 30}, {10, least, 30}, {30, 0, 30}} {
		if got := x.At(y.root, y.slot); got != y.want {
			t.Errorf("behind Cut(30): At(%d, %d): %d, want %d", y.root, y.slot, got, y.want)
		}
	}
	checkBelow(t, x, 10, 30, true)
	checkBelow(t, x, 10, 20, false)
	checkBelow(t, x, 30, 10, false)
	checkBelow(t, x, 30, 50, false)
	checkBelow(t, x, 10, 50, false)
}

func TestCutTwice(t *testing.T) {
	x := wide(t)
	x.Cut(30)
	was := look(t, x)
	checkList(t, "Cut(30) again", x.Cut(30))
	checkList(t, "Cut of one that was cut off", x.Cut(70))
	if is := look(t, x); !reflect.DeepEqual(is, was) {
		t.Errorf("a Cut of nothing changed the tree: %v, it was %v", is, was)
	}
	checkList(t, "Cut(90)", x.Cut(90), 20, 30)
	want := view{
		first: 90, count: 3, roots: []uint64{10, 90, 95},
		blocks: map[uint64]seen{
			90: {90, 15, 0, []uint64{10, 95}},
			10: {90, 20, 1, nil},
			95: {90, 16, 1, nil},
		},
	}
	if is := look(t, x); !reflect.DeepEqual(is, want) {
		t.Errorf("Cut(90): %v, want %v", is, want)
	}
	checkList(t, "Cut(95)", x.Cut(95), 10, 90)
	checkGet(t, x, 95, 95, 16, 0)
}

// Blocks that were cut off may be added anew, elsewhere; those that are left are still there, and still in their place.
func TestAddBehindCut(t *testing.T) {
	x := wide(t)
	x.Cut(30)
	refuse(t, "the new first one", x, node{30, 10, 99}, api.ErrTwice)
	refuse(t, "one that is left", x, node{95, 30, 99}, api.ErrTwice)
	refuse(t, "on one that was cut off", x, node{60, 70, 99}, api.ErrParent)
	refuse(t, "on the one that was the first", x, node{60, 50, 99}, api.ErrParent)
	refuse(t, "at the new first one's slot", x, node{50, 30, 12}, api.ErrSlot)
	add(t, x, node{50, 30, 13}, node{70, 50, 14}, node{60, 10, 21}, node{40, 95, 17})
	want := view{
		first: 30, count: 9, roots: []uint64{10, 20, 30, 40, 50, 60, 70, 90, 95},
		blocks: map[uint64]seen{
			30: {30, 12, 0, []uint64{20, 50, 90}},
			20: {30, 13, 1, nil},
			50: {30, 13, 1, []uint64{70}},
			70: {50, 14, 2, nil},
			90: {30, 15, 1, []uint64{10, 95}},
			10: {90, 20, 2, []uint64{60}},
			60: {10, 21, 3, nil},
			95: {90, 16, 2, []uint64{40}},
			40: {95, 17, 3, nil},
		},
	}
	if is := look(t, x); !reflect.DeepEqual(is, want) {
		t.Errorf("added anew: %v, want %v", is, want)
	}
	checkBelow(t, x, 70, 50, true)
	checkBelow(t, x, 60, 90, true)
	checkBelow(t, x, 30, 50, false)
	checkList(t, "Cut(50)", x.Cut(50), 10, 20, 30, 40, 60, 90, 95)
	checkGet(t, x, 70, 50, 14, 1)
}

// A Cut makes as much room as it takes away.
func TestCutMakesRoom(t *testing.T) {
	const limit = api.MaxBlocks
	x := line(t, limit)
	checkList(t, "Cut(3)", x.Cut(3), 1, 2)
	if x.Len() != limit-2 {
		t.Errorf("Len %d, want %d", x.Len(), limit-2)
	}
	checkGet(t, x, limit, limit-1, limit-1, limit-3)
	add(t, x, node{1, 3, 3}, node{2, limit, limit})
	refuse(t, "full again", x, node{5000, 3, 5000}, api.ErrFull)
	checkGet(t, x, 2, limit, limit, limit-2)
}

// A tree that goes on and on: Cut to the one below the last, again and again.
func TestCutOnAndOn(t *testing.T) {
	x := Of(1, 0)
	first := uint64(1)
	for n := uint64(2); n <= 3000; n++ {
		add(t, x, node{n, n - 1, int(n)})
		if n%10 == 0 {
			checkList(t, "Cut", x.Cut(n-1), upTo(first, n-2)...)
			first = n - 1
			checkGet(t, x, n, n-1, int(n), 1)
			if x.Len() != 2 || x.First() != n-1 {
				t.Errorf("Len %d, First %d, want 2, %d", x.Len(), x.First(), n-1)
			}
		}
	}
}

// W6: what is handed back is the caller's own.

func TestAnswersAreTheCallers(t *testing.T) {
	x := wide(t)
	was := look(t, wide(t))
	spoil := func(list []uint64) {
		for i := range list {
			list[i] = 77
		}
		full := list[:cap(list)]
		for i := range full {
			full[i] = 77
		}
		_ = append(list, 77)
	}
	for _, root := range was.roots {
		spoil(x.Kids(root))
	}
	spoil(x.Roots())
	if is := look(t, x); !reflect.DeepEqual(is, was) {
		t.Errorf("changed answers changed the tree: %v, it was %v", is, was)
	}
	roots, kids := x.Roots(), x.Kids(50)
	gone := x.Cut(30)
	left := look(t, x)
	spoil(gone)
	if is := look(t, x); !reflect.DeepEqual(is, left) {
		t.Errorf("a changed answer of Cut changed the tree: %v, it was %v", is, left)
	}
	add(t, x, node{25, 30, 40}, node{5, 30, 40}, node{40, 30, 40})
	checkList(t, "Roots of ahead", roots, was.roots...)
	checkList(t, "Kids of ahead", kids, 30, 40, 70)
}

// What Kids handed back does not change by blocks that come behind it.
func TestAnswersStay(t *testing.T) {
	x := Of(1, 0)
	var answers [][]uint64
	for n := uint64(40); n >= 2; n-- {
		answers = append(answers, x.Kids(1))
		add(t, x, node{n, 1, 1})
	}
	for i, got := range answers {
		checkList(t, "Kids of ahead", got, upTo(uint64(41-i), 40)...)
	}
}

// W2: trees have nothing in common, and an answer asked for twice is the same.

func TestTreesAreApart(t *testing.T) {
	x, y := example(t), example(t)
	was := look(t, y)
	add(t, x, node{9, 3, 9})
	x.Cut(2)
	if is := look(t, y); !reflect.DeepEqual(is, was) {
		t.Errorf("another tree changed: %v, it was %v", is, was)
	}
	if once, again := look(t, x), look(t, x); !reflect.DeepEqual(once, again) {
		t.Errorf("asked twice: %v, and %v", once, again)
	}
}

// W1: a tree that Of did not make has no blocks, and does not panic.

func TestZeroTree(t *testing.T) {
	var x Tree
	if x.First() != 0 || x.Len() != 0 || len(x.Roots()) != 0 || len(x.Cut(0)) != 0 {
		t.Errorf("First %d, Len %d, Roots %v, want nothing", x.First(), x.Len(), x.Roots())
	}
	refuse(t, "on nothing", &x, node{0, 0, 1}, api.ErrParent)
	checkGone(t, &x, 0)
}
