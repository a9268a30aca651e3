package viable

import (
	"maps"
	"math"
	"reflect"
	"slices"
	"testing"

	"psephos/api"
	"psephos/tree"
)

const (
	least = math.MinInt
	most  = math.MaxInt
	top   = math.MaxUint64
)

// wood is the blocks 2 on 1, 3 on 2, 4 on 3, 5 on 4, and beside them 6 on 1, 7 on 6 and 8 on 3; 1 is the first one, and 5, 7 and 8 have no Kids.
func wood() *tree.Tree {
	t := tree.Of(1, 0)
	for _, b := range [][2]uint64{{2, 1}, {3, 2}, {4, 3}, {5, 4}, {6, 1}, {7, 6}, {8, 3}} {
		_, slot, _, _ := t.Get(b[1])
		if t.Add(b[0], b[1], slot+1) != nil {
			panic("no such tree")
		}
	}
	return t
}

// line is the blocks from 1 to a number on one another.
func line(to int) *tree.Tree {
	t := tree.Of(1, 0)
	for n := 2; n <= to; n++ {
		if t.Add(uint64(n), uint64(n-1), n) != nil {
			panic("no such line")
		}
	}
	return t
}

// fan is the blocks from 2 to a number, all on 1.
func fan(to int) *tree.Tree {
	t := tree.Of(1, 0)
	for n := 2; n <= to; n++ {
		if t.Add(uint64(n), 1, 7) != nil {
			panic("no such fan")
		}
	}
	return t
}

// late is a view of epoch 9 with epoch 5 justified, and 1 final: a block without Kids may by the number 5 or one from 7 on.
func late(sources map[uint64]int) View {
	return View{Justified: api.Point{Epoch: 5, Root: 1}, Final: api.Point{Epoch: 4, Root: 1}, Epoch: 9, Sources: sources}
}

// only is a view by which of the blocks without Kids those alone may that are told.
func only(roots ...uint64) View {
	sources := map[uint64]int{}
	for _, root := range roots {
		sources[root] = 5
	}
	return late(sources)
}

// at is a late view with another block final.
func at(final uint64, v View) View {
	v.Final.Root = final
	return v
}

// upTo is the numbers from one to another one.
func upTo(from, to uint64) []uint64 {
	var ns []uint64
	for n := from; n <= to; n++ {
		ns = append(ns, n)
	}
	return ns
}

// checkOf asks that these are told, each of them true, and no others.
func checkOf(t *testing.T, name string, x *tree.Tree, v View, want ...uint64) {
	t.Helper()
	got := Of(x, v)
	roots := slices.Sorted(maps.Keys(got))
	if !slices.Equal(roots, want) {
		t.Errorf("%s: Of: %v, want %v", name, roots, want)
	}
	for _, root := range roots {
		if !got[root] {
			t.Errorf("%s: %d is told, but false", name, root)
		}
	}
}

// P13.1, the chapter's examples.

func TestExampleOfTheBeginning(t *testing.T) {
	begin := View{Justified: api.Point{Root: 1}, Final: api.Point{Root: 1}}
	for _, sources := range []map[uint64]int{nil, {}, {1: 0, 5: 0, 7: 0}} {
		begin.Sources = sources
		checkOf(t, "the beginning", tree.Of(1, 0), begin, 1)
		checkOf(t, "the beginning", wood(), begin, 1, 2, 3, 4, 5, 6, 7, 8)
	}
}

func TestExampleOfTheLastBlock(t *testing.T) {
	// Of the line's other blocks the number says otherwise.
	checkOf(t, "the last one has 3", line(4), late(map[uint64]int{1: 5, 2: 9, 3: 7, 4: 3}))
	checkOf(t, "the last one has 3", tree.Of(1, 0), late(map[uint64]int{1: 3}))
	checkOf(t, "the last one has 5", line(4), late(map[uint64]int{1: 3, 2: 3, 3: 3, 4: 5}), 1, 2, 3, 4)
}

// P13.1: all that may are told, and no others.

func TestOfSomeOfTheWood(t *testing.T) {
	for _, x := range []struct {
		may  []uint64
		want []uint64
	}{
		{nil, nil},
		{[]uint64{5}, []uint64{1, 2, 3, 4, 5}},
		{[]uint64{7}, []uint64{1, 6, 7}},
		{[]uint64{8}, []uint64{1, 2, 3, 8}},
		{[]uint64{5, 7}, []uint64{1, 2, 3, 4, 5, 6, 7}},
		{[]uint64{5, 8}, []uint64{1, 2, 3, 4, 5, 8}},
		{[]uint64{7, 8}, []uint64{1, 2, 3, 6, 7, 8}},
		{[]uint64{5, 7, 8}, []uint64{1, 2, 3, 4, 5, 6, 7, 8}},
		{[]uint64{1, 2, 3, 4, 6}, nil},
	} {
		checkOf(t, "some of the wood", wood(), only(x.may...), x.want...)
	}
}

func TestOfBlocksThatOnlySourcesHas(t *testing.T) {
	strangers := map[uint64]int{0: 5, 9: 5, 10: 9, 1 << 32: 5, 1<<32 + 1: 5, 1 << 63: 7, top: 5}
	checkOf(t, "strangers alone", wood(), late(strangers))
	strangers[7] = 5
	checkOf(t, "strangers beside 7", wood(), late(strangers), 1, 6, 7)
	checkOf(t, "a stranger, which is final", wood(), at(9, late(strangers)))
	early := late(strangers)
	early.Justified.Epoch = 0
	checkOf(t, "strangers at the beginning", tree.Of(1, 0), early, 1)
}

// P13.1: a block without Kids, by its number.

const absent = -77 // no number: Sources does not have the block

// number is a block by itself, its number, what is justified, the epoch that it is, and whether it may.
type number struct {
	justified, epoch, source int
	may                      bool
}

func checkNumbers(t *testing.T, numbers []number) {
	t.Helper()
	for _, n := range numbers {
		sources := []map[uint64]int{{1: n.source, 2: n.source}, {2: n.source, top: 5}}
		if n.source == absent {
			sources = []map[uint64]int{nil, {}, {0: 5, 3: 9}, {0: n.epoch, 3: n.justified}}
		}
		for _, s := range sources {
			// The roots that are justified and final, and the latter's epoch, are not asked for by a number.
			for _, root := range []uint64{0, 1, 2, 9} {
				v := View{api.Point{Epoch: n.justified, Root: root}, api.Point{Epoch: n.justified - int(root), Root: 1}, n.epoch, s}
				var want []uint64
				if n.may {
					want = []uint64{1, 2}
				}
				checkOf(t, "on the first one", line(2), v, want...)
				if t.Failed() {
					t.Fatalf("%+v, Sources %v", n, s)
				}
			}
		}
	}
}

func TestOfNumbersWhereEpochZeroIsJustified(t *testing.T) {
	for _, epoch := range []int{least, -100, -3, -2, -1, 0, 1, 2, 3, 4, 100, most} {
		for _, source := range []int{absent, least, -101, -1, 0, 1, epoch - 3, epoch - 2, epoch, epoch + 1, most} {
			checkNumbers(t, []number{{0, epoch, source, true}})
		}
	}
}

func TestOfNumbersWhereALaterEpochIsJustified(t *testing.T) {
	checkNumbers(t, []number{
		{5, 100, 5, true}, {5, 100, 4, false}, {5, 100, 6, false},
		{5, 100, 98, true}, {5, 100, 97, false}, {5, 100, 99, true}, {5, 100, 100, true}, {5, 100, 101, true}, {5, 100, 5000, true},
		{5, 100, 0, false}, {5, 100, 1, false}, {5, 100, -5, false}, {5, 100, -98, false}, {5, 100, absent, false},
		{1, 100, 1, true}, {1, 100, 0, false}, {1, 100, 2, false}, {1, 100, absent, false},
		{1, 3, 0, false}, {1, 3, 1, true}, {1, 4, 1, true}, {1, 4, 2, true}, {1, 4, 0, false},
	})
}

func TestOfNumbersNearWhatIsJustified(t *testing.T) {
	checkNumbers(t, []number{
		// Epoch is later than what is justified by two, by three, by none, or is ahead of it.
		{5, 7, 5, true}, {5, 7, 4, false}, {5, 7, 6, true}, {5, 7, 7, true}, {5, 7, 8, true},
		{5, 8, 5, true}, {5, 8, 4, false}, {5, 8, 6, true},
		{5, 5, 5, true}, {5, 5, 4, true}, {5, 5, 3, true}, {5, 5, 2, false}, {5, 5, 6, true},
		{5, 2, 5, true}, {5, 2, 4, true}, {5, 2, 0, true}, {5, 2, -1, false}, {5, 2, 6, true},
	})
}

func TestOfBlocksWithoutNumber(t *testing.T) {
	checkNumbers(t, []number{
		{5, 2, absent, true}, {5, 3, absent, false}, {5, 1, absent, true}, {5, 0, absent, true}, {5, -1, absent, true}, {5, -100, absent, true},
		{-5, 2, absent, true}, {-5, 3, absent, false}, {-5, 1, absent, true}, {-5, -100, absent, true}, {-5, 100, absent, false},
	})
}

func TestOfNumbersWhereAnEpochBelowZeroIsJustified(t *testing.T) {
	checkNumbers(t, []number{
		{-5, 100, -5, true}, {-5, 100, -6, false}, {-5, 100, -4, false}, {-5, 100, 5, false},
		{-5, 100, 98, true}, {-5, 100, 97, false}, {-5, 100, 100, true}, {-5, 100, 101, true}, {-5, 100, 0, false},
		{-1, 100, -1, true}, {-1, 100, -2, false}, {-1, 100, 0, false},
		{-5, -20, -22, true}, {-5, -20, -23, false}, {-5, -20, -21, true}, {-5, -20, -20, true}, {-5, -20, -19, true}, {-5, -20, 3, true},
		{-50, -20, -50, true}, {-50, -20, -51, false}, {-50, -20, -49, false},
		{-5, 1, -1, true}, {-5, 1, -2, false}, {-5, 0, -2, true}, {-5, 0, -3, false},
	})
}

// The least and the greatest that an int may be: no number goes round to be near another one.

func TestOfTheGreatestEpoch(t *testing.T) {
	checkNumbers(t, []number{
		{5, most, most, true}, {5, most, most - 1, true}, {5, most, most - 2, true}, {5, most, most - 3, false},
		{5, most, 5, true}, {5, most, 6, false}, {5, most, 0, false}, {5, most, absent, false},
		{5, most, -1, false}, {5, most, -2, false}, {5, most, -3, false},
		{5, most, least, false}, {5, most, least + 1, false}, {5, most, least + 2, false},
		{5, most - 1, most, true}, {5, most - 2, most, true}, {5, most - 2, most - 4, true}, {5, most - 2, most - 5, false},
	})
}

func TestOfTheLeastEpoch(t *testing.T) {
	for _, epoch := range []int{least, least + 1, least + 2} {
		for _, source := range []int{least, least + 1, least + 2, least + 3, -1, 0, absent, 4, most - 2, most - 1, most} {
			checkNumbers(t, []number{{5, epoch, source, true}})
		}
	}
	checkNumbers(t, []number{{5, least + 3, least, false}, {5, least + 3, least + 1, true}, {5, least + 3, most, true}, {5, least + 4, least + 1, false}})
}

func TestOfTheLeastAndTheGreatestNumber(t *testing.T) {
	for _, epoch := range []int{-2, -1, 0, 1, 2, 9} {
		checkNumbers(t, []number{
			{5, epoch, most, true}, {5, epoch, most - 1, true}, {5, epoch, most - 2, true},
			{5, epoch, least, false}, {5, epoch, least + 1, false}, {5, epoch, least + 2, false},
		})
	}
}

func TestOfTheLeastAndTheGreatestThatIsJustified(t *testing.T) {
	checkNumbers(t, []number{
		{most, 9, most, true}, {most, 9, 6, false}, {most, 9, 7, true}, {most, 9, least, false}, {most, 9, absent, false}, {most, 9, -1, false},
		{most, most, most - 2, true}, {most, most, most - 3, false}, {most, most, least, false},
		{least, 9, least, true}, {least, 9, least + 1, false}, {least, 9, most, true}, {least, 9, 6, false}, {least, 9, absent, false},
		{least, most, least, true}, {least, most, least + 1, false}, {least, most, most, true},
		{least, least, most, true}, {least, least, least, true}, {most, least, least, true},
	})
}

// P13.1: a block without Kids must be Below Final's root, whatever lets it.

func TestOfFinal(t *testing.T) {
	for _, x := range []struct {
		name  string
		final uint64
		want  []uint64
	}{
		{"all far above it, or at once", 1, []uint64{1, 2, 3, 4, 5, 6, 7, 8}},
		{"5 and 8 far above it", 2, []uint64{1, 2, 3, 4, 5, 8}},
		{"8 on it at once, 5 far above", 3, []uint64{1, 2, 3, 4, 5, 8}},
		{"5 on it at once, 8 beside it", 4, []uint64{1, 2, 3, 4, 5}},
		{"5 itself, 7 and 8 lower than it", 5, []uint64{1, 2, 3, 4, 5}},
		{"7 on it at once", 6, []uint64{1, 6, 7}},
		{"7 itself", 7, []uint64{1, 6, 7}},
		{"8 itself, 5 beside it and higher", 8, []uint64{1, 2, 3, 8}},
		{"none", 0, nil},
		{"one that is not there", 9, nil},
		{"one that is not there", 1<<32 + 3, nil},
		{"one that is not there", top, nil},
	} {
		// By each of the three: nothing is justified, the number is what is, the number is not long ago.
		begin := at(x.final, late(nil))
		begin.Justified.Epoch = 0
		checkOf(t, x.name, wood(), begin, x.want...)
		checkOf(t, x.name, wood(), at(x.final, only(5, 7, 8)), x.want...)
		checkOf(t, x.name, wood(), at(x.final, late(map[uint64]int{5: 7, 7: 8, 8: 10})), x.want...)
		// And by none of them.
		checkOf(t, x.name, wood(), at(x.final, late(map[uint64]int{5: 6, 7: 4, 8: 0})))
	}
}

func TestOfFinalWhereSomeMay(t *testing.T) {
	checkOf(t, "8 alone may, and stands on 3", wood(), at(3, only(8, 7)), 1, 2, 3, 8)
	checkOf(t, "8 alone may, beside 4", wood(), at(4, only(8, 7)))
	checkOf(t, "7 alone may, beside 2", wood(), at(2, only(7)))
	checkOf(t, "Final's epoch says nothing", wood(), View{api.Point{Epoch: 5}, api.Point{Epoch: 50, Root: 6}, 9, map[uint64]int{7: 5}}, 1, 6, 7)
	checkOf(t, "Justified's root says nothing", wood(), View{api.Point{Epoch: 5, Root: 8}, api.Point{Root: 2}, 9, map[uint64]int{5: 5}}, 1, 2, 3, 4, 5)
}

// P13.1: a block with Kids, by these alone.

func TestOfAKid(t *testing.T) {
	checkOf(t, "one that may", line(2), only(2), 1, 2)
	checkOf(t, "one that may not", line(2), only())
	checkOf(t, "one that may, on one that has as much", line(2), only(1, 2), 1, 2)
	checkOf(t, "one that may not, on one whose number would do", line(2), only(1))
	for _, own := range []int{least, 0, 4, 6} {
		checkOf(t, "one that may, on one whose number would not do", line(2), late(map[uint64]int{1: own, 2: 5}), 1, 2)
	}
	for _, own := range []int{5, 7, 8, 9, 10, most} {
		checkOf(t, "one that may not, on one whose number would do", line(2), late(map[uint64]int{1: own, 2: 6}))
	}
}

func TestOfSeveralKids(t *testing.T) {
	for n := 2; n <= 5; n++ {
		for some := range 1 << (n - 1) {
			var may []uint64
			for k := range n - 1 {
				if some>>k&1 == 1 {
					may = append(may, uint64(k+2))
				}
			}
			want := may
			if some > 0 {
				want = append([]uint64{1}, may...)
			}
			checkOf(t, "some of several", fan(n), only(may...), want...)
			checkOf(t, "some of several, on one whose number would do", fan(n), only(append([]uint64{1}, may...)...), want...)
			// The same with blocks on those that may, and on those that may not.
			x := fan(n)
			for k := uint64(2); k <= uint64(n); k++ {
				if err := x.Add(k+10, k, 8); err != nil {
					t.Fatal(err)
				}
			}
			v := late(map[uint64]int{1: 5})
			for _, root := range may {
				v.Sources[root+10] = 8
				want = append(want, root+10)
			}
			checkOf(t, "some of several, by those on them", x, v, want...)
		}
	}
}

func TestOfAKidFarAbove(t *testing.T) {
	x := line(200)
	// Others beside it, on blocks of the line, may not.
	for n := uint64(10); n < 200; n += 10 {
		if err := x.Add(n+1000, n, 900); err != nil {
			t.Fatal(err)
		}
	}
	checkOf(t, "the last one", x, only(200), upTo(1, 200)...)
	checkOf(t, "one beside the line", x, only(1100), append(upTo(1, 100), 1100)...)
	checkOf(t, "two beside the line", x, only(1010, 1100), append(upTo(1, 100), 1010, 1100)...)
	checkOf(t, "none", x, only(upTo(1, 199)...))
}

// P13.1: trees.

func TestOfTheFirstBlockAlone(t *testing.T) {
	for _, root := range []uint64{0, 1, 2, 1 << 63, top} {
		for _, slot := range []int{least, -1, 0, 40, most} {
			x := tree.Of(root, slot)
			checkOf(t, "alone", x, at(root, only(root)), root)
			checkOf(t, "alone, its number will not do", x, at(root, only()))
			checkOf(t, "alone, something else is final", x, at(root+1, only(root, root+1)))
			checkOf(t, "alone, nothing is justified", x, View{Final: api.Point{Root: root}}, root)
		}
	}
}

func TestOfRootZero(t *testing.T) {
	x := tree.Of(0, 0)
	if x.Add(5, 0, 1) != nil || x.Add(top, 0, 1) != nil || x.Add(6, 5, 2) != nil {
		t.Fatal("no such tree")
	}
	checkOf(t, "0 is the first one", x, at(0, only(6)), 0, 5, 6)
	checkOf(t, "0 is the first one", x, at(0, only(top)), 0, top)
	checkOf(t, "0 is the first one", x, at(5, only(6, top)), 0, 5, 6)
	checkOf(t, "0 is the first one", x, at(0, only(0)))
	y := line(2)
	if y.Add(0, 1, 9) != nil {
		t.Fatal("no such tree")
	}
	checkOf(t, "0 stands on 1", y, only(0), 0, 1)
	checkOf(t, "0 stands on 1", y, at(0, only(0, 2)), 0, 1)
	checkOf(t, "0 stands on 1", y, only(2), 1, 2)
}

func TestOfManyBlocksOnOne(t *testing.T) {
	x := fan(api.MaxBlocks)
	checkOf(t, "all", x, only(upTo(2, api.MaxBlocks)...), upTo(1, api.MaxBlocks)...)
	checkOf(t, "none", x, only(1))
	for _, root := range []uint64{2, 3, 500, api.MaxBlocks - 1, api.MaxBlocks} {
		checkOf(t, "one of many", x, only(root), 1, root)
		checkOf(t, "all, one is final", x, at(root, only(upTo(1, api.MaxBlocks)...)), 1, root)
	}
	checkOf(t, "some of many", x, only(3, 4, 700), 1, 3, 4, 700)
}

func TestOfAsManyAsThereIsRoomForInOneLine(t *testing.T) {
	x := line(api.MaxBlocks)
	if x.Add(5000, 1, 9) == nil {
		t.Fatal("there is room")
	}
	all := upTo(1, api.MaxBlocks)
	checkOf(t, "the last one may", x, only(api.MaxBlocks), all...)
	checkOf(t, "the last one may not", x, only(all[:api.MaxBlocks-1]...))
	checkOf(t, "the last one is final", x, at(api.MaxBlocks, only(api.MaxBlocks)), all...)
	checkOf(t, "one in the middle is final", x, at(500, only(api.MaxBlocks)), all...)
	checkOf(t, "one that is not there is final", x, at(5000, only(all...)))
	checkOf(t, "nothing is justified", x, View{Final: api.Point{Root: 1}}, all...)
}

func TestOfATreeThatWasCutAndLaidOnAgain(t *testing.T) {
	x, all := wood(), only(upTo(1, 9)...)
	checkOf(t, "ahead of Cut", x, at(2, all), 1, 2, 3, 4, 5, 8)
	x.Cut(3)
	checkOf(t, "behind Cut", x, at(3, all), 3, 4, 5, 8)
	checkOf(t, "behind Cut, one that may not", x, at(3, only(1, 2, 3, 4, 5, 6, 7)), 3, 4, 5)
	for _, gone := range []uint64{1, 2, 6, 7} {
		checkOf(t, "what was cut off is final", x, at(gone, all))
	}
	// 7 is laid anew, where it was not; 1 as the last one.
	if x.Add(7, 8, 60) != nil || x.Add(1, 5, 70) != nil {
		t.Fatal("no such tree")
	}
	checkOf(t, "laid on again", x, at(3, only(7)), 3, 7, 8)
	checkOf(t, "laid on again", x, at(3, only(1)), 1, 3, 4, 5)
	checkOf(t, "laid on again", x, at(3, only(5, 8)))
	checkOf(t, "laid on again", x, at(8, all), 3, 7, 8)
	checkOf(t, "laid on again", x, at(1, all), 1, 3, 4, 5)
	x.Cut(5)
	checkOf(t, "cut again", x, at(5, all), 1, 5)
}

// The answer hangs on the tree and the view as they are now.

func TestOfATreeThatGrows(t *testing.T) {
	x, v := wood(), only(5, 7)
	checkOf(t, "ahead of Add", x, v, 1, 2, 3, 4, 5, 6, 7)
	if err := x.Add(9, 5, 50); err != nil {
		t.Fatal(err)
	}
	checkOf(t, "5 has a Kid now", x, v, 1, 6, 7)
	v.Sources[9] = 5
	checkOf(t, "which may now", x, v, 1, 2, 3, 4, 5, 6, 7, 9)
	delete(v.Sources, 9)
	checkOf(t, "and now may not", x, v, 1, 6, 7)
	checkOf(t, "another tree of the same blocks", wood(), v, 1, 2, 3, 4, 5, 6, 7)
}

func TestOfATreeWithoutBlocks(t *testing.T) {
	for _, root := range []uint64{0, 1, top} {
		checkOf(t, "no tree", &tree.Tree{}, View{Final: api.Point{Root: root}})
		checkOf(t, "no tree", &tree.Tree{}, at(root, only(root)))
	}
}

// W6, W2: it changes nothing of what is handed in, says the same again, and each answer is a map of its own.

func TestOfChangesNothing(t *testing.T) {
	sources := func() map[uint64]int { return map[uint64]int{1: 5, 4: 3, 5: 5, 8: 6, 9: 5, 0: 7} }
	x, s := wood(), sources()
	for _, final := range []uint64{0, 1, 2, 4, 5, 7, 9} {
		for _, justified := range []int{-1, 0, 5, 6} {
			v := at(final, late(s))
			v.Justified.Epoch = justified
			was := v
			a, b := Of(x, v), Of(x, v)
			if !maps.Equal(a, b) {
				t.Errorf("%+v: %v, and then %v", v, a, b)
			}
			if !reflect.DeepEqual(v, was) {
				t.Errorf("behind Of: %+v, want %+v", v, was)
			}
		}
	}
	if !reflect.DeepEqual(x, wood()) || !maps.Equal(s, sources()) {
		t.Errorf("behind Of: %v, %v", x.Roots(), s)
	}
}

func TestOfIsNewMemory(t *testing.T) {
	x, v := wood(), only(5)
	a, b := Of(x, v), Of(x, v)
	clear(a)
	a[77] = true
	if !maps.Equal(b, map[uint64]bool{1: true, 2: true, 3: true, 4: true, 5: true}) {
		t.Errorf("behind a change of another answer: %v", b)
	}
	checkOf(t, "behind a change of an answer", x, v, 1, 2, 3, 4, 5)
	if !maps.Equal(v.Sources, only(5).Sources) {
		t.Errorf("behind a change of an answer: Sources %v", v.Sources)
	}
	// And what comes to Sources later does not come to an answer.
	v.Sources[7] = 5
	if len(b) != 5 {
		t.Errorf("behind a change of Sources: %v", b)
	}
}
