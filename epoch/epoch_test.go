package epoch

import (
	"math"
	"slices"
	"testing"
)

// P2.1, Of.

func TestOf(t *testing.T) {
	tests := []struct {
		name              string
		slot, slots, want int
	}{
		{"the document's", 17, 8, 2},
		{"slot 0", 0, 8, 0},
		{"last of epoch 0", 7, 8, 0},
		{"begins epoch 1", 8, 8, 1},
		{"last of epoch 1", 15, 8, 1},
		{"begins epoch 2", 16, 8, 2},
		{"slots no power of two", 20, 3, 6},
		{"one slot an epoch", 5, 1, 5},
		{"slots 0 count as 1", 7, 0, 7},
		{"slots below 0 count as 1", 7, -3, 7},
		{"least slots", 7, math.MinInt, 7},
		{"slot below 0 counts as 0", -1, 8, 0},
		{"whole epochs below 0", -16, 8, 0},
		{"least slot", math.MinInt, 1, 0},
		{"least slot, slots -1", math.MinInt, -1, 0},
		{"both below", -5, -5, 0},
		{"greatest slot", math.MaxInt, 1, math.MaxInt},
		{"greatest slot, halved", math.MaxInt, 2, math.MaxInt / 2},
		{"greatest slots", math.MaxInt - 1, math.MaxInt, 0},
		{"greatest of both", math.MaxInt, math.MaxInt, 1},
	}
	for _, x := range tests {
		if got := Of(x.slot, x.slots); got != x.want {
			t.Errorf("%s: Of(%d, %d): %d, want %d", x.name, x.slot, x.slots, got, x.want)
		}
	}
}

// P2.1, Start.

func TestStart(t *testing.T) {
	tests := []struct {
		name           string
		e, slots, want int
	}{
		{"the document's", 2, 8, 16},
		{"epoch 0", 0, 8, 0},
		{"epoch 1", 1, 8, 8},
		{"slots no power of two", 5, 3, 15},
		{"slots 0 count as 1", 3, 0, 3},
		{"slots below 0 count as 1", 3, -4, 3},
		{"least slots", 3, math.MinInt, 3},
		{"epoch below 0 counts as 0", -1, 8, 0},
		{"least epoch", math.MinInt, 3, 0},
		{"both below", -2, -8, 0},
		{"greatest epoch", math.MaxInt, 1, math.MaxInt},
		{"not yet round", 1<<62 - 1, 2, math.MaxInt - 1},
		{"round to the least", 1 << 62, 2, math.MinInt},
		{"round to 0", 1 << 62, 4, 0},
		{"round below 0", math.MaxInt, 2, -2},
		{"round to 1", math.MaxInt, math.MaxInt, 1},
	}
	for _, x := range tests {
		if got := Start(x.e, x.slots); got != x.want {
			t.Errorf("%s: Start(%d, %d): %d, want %d", x.name, x.e, x.slots, got, x.want)
		}
	}
}

// P2.1, First.

func TestFirst(t *testing.T) {
	tests := []struct {
		name        string
		slot, slots int
		want        bool
	}{
		{"slot 0", 0, 8, true},
		{"behind it", 1, 8, false},
		{"last of epoch 0", 7, 8, false},
		{"begins epoch 1", 8, 8, true},
		{"begins epoch 2", 16, 8, true},
		{"in epoch 2", 17, 8, false},
		{"slots no power of two", 9, 3, true},
		{"slots no power of two, within", 10, 3, false},
		{"one slot an epoch", 5, 1, true},
		{"slots 0 count as 1", 5, 0, true},
		{"slots below 0 count as 1", 5, -8, true},
		{"least slots", 5, math.MinInt, true},
		{"below 0", -1, 8, false},
		{"below 0, without rest", -8, 8, false},
		{"below 0, one slot an epoch", -1, 1, false},
		{"below 0, slots 0", -1, 0, false},
		{"least slot", math.MinInt, 8, false},
		{"least slot, slots -1", math.MinInt, -1, false},
		{"greatest slot", math.MaxInt, 1, true},
		{"greatest slot, halved", math.MaxInt, 2, false},
		{"greatest of both", math.MaxInt, math.MaxInt, true},
		{"greatest slots", math.MaxInt - 1, math.MaxInt, false},
	}
	for _, x := range tests {
		if got := First(x.slot, x.slots); got != x.want {
			t.Errorf("%s: First(%d, %d): %v", x.name, x.slot, x.slots, got)
		}
	}
}

// P2.1, Ends.

func TestEnds(t *testing.T) {
	tests := []struct {
		name            string
		from, to, slots int
		want            []int
	}{
		{"the document's", 7, 17, 8, []int{0, 1}},
		{"several, not from 0", 25, 50, 8, []int{3, 4, 5}},
		{"one slot on, over an epoch's end", 7, 8, 8, []int{0}},
		{"to begins an epoch", 0, 16, 8, []int{0, 1}},
		{"to is the last ahead of one", 0, 15, 8, []int{0}},
		{"from begins an epoch", 8, 17, 8, []int{1}},
		{"slots no power of two", 4, 10, 3, []int{1, 2}},
		{"one slot an epoch", 3, 6, 1, []int{3, 4, 5}},
		{"one slot", 9, 9, 8, nil},
		{"in one epoch", 8, 15, 8, nil},
		{"to ahead of from", 17, 7, 8, nil},
		{"to ahead of from, in one epoch", 15, 8, 8, nil},
		{"slots 0 count as 1", 3, 6, 0, []int{3, 4, 5}},
		{"slots below 0 count as 1", 3, 6, -8, []int{3, 4, 5}},
		{"least slots", 3, 5, math.MinInt, []int{3, 4}},
		{"from below 0 counts as 0", -20, 17, 8, []int{0, 1}},
		{"least from", math.MinInt, 9, 8, []int{0}},
		{"to below 0 counts as 0", 9, -1, 8, nil},
		{"both below 0", -40, -1, 8, nil},
		{"least to, greatest from", math.MaxInt, math.MinInt, 1, nil},
		{"greatest epochs", math.MaxInt - 2, math.MaxInt, 1, []int{math.MaxInt - 2, math.MaxInt - 1}},
		{"greatest slots", 0, math.MaxInt, math.MaxInt, []int{0}},
	}
	for _, x := range tests {
		if got := Ends(x.from, x.to, x.slots); !slices.Equal(got, x.want) {
			t.Errorf("%s: Ends(%d, %d, %d): %v, want %v", x.name, x.from, x.to, x.slots, got, x.want)
		}
	}
}

func TestEndsOfManyEpochs(t *testing.T) {
	tests := []struct {
		from, to, slots int
		first, n        int
	}{
		{0, 4095, 1, 0, 4095},
		{0, 4096, 1, 0, 4096},
		{0, 4097, 1, 0, 4096},
		{10, 9000, 1, 10, 4096},
		{17, 17 + 8*5000, 8, 2, 4096},
		{math.MinInt, math.MaxInt, 1, 0, 4096},
		{0, math.MaxInt, math.MinInt, 0, 4096},
		{math.MaxInt - 5000, math.MaxInt, 1, math.MaxInt - 5000, 4096},
		{math.MaxInt - 4096, math.MaxInt, 1, math.MaxInt - 4096, 4096},
	}
	for _, x := range tests {
		got := Ends(x.from, x.to, x.slots)
		if len(got) != x.n {
			t.Errorf("Ends(%d, %d, %d): %d epochs, want %d", x.from, x.to, x.slots, len(got), x.n)
			continue
		}
		for i, e := range got {
			if e != x.first+i {
				t.Errorf("Ends(%d, %d, %d): epoch %d at %d, want %d", x.from, x.to, x.slots, e, i, x.first+i)
				break
			}
		}
	}
}

// W6.
func TestEndsAnswersNewMemory(t *testing.T) {
	a, b := Ends(0, 9, 3), Ends(0, 9, 3)
	a[0] = 7
	if b[0] != 0 || Ends(0, 9, 3)[0] != 0 {
		t.Error("two answers share memory", a, b)
	}
}

// The four say one thing of one slot: each is held against the others.
func TestFunctionsAgree(t *testing.T) {
	for slots := 1; slots <= 9; slots++ {
		for slot := range 100 {
			e := Of(slot, slots)
			start := Start(e, slots)
			if start > slot || slot >= Start(e+1, slots) {
				t.Errorf("slot %d of %d is not in its epoch %d", slot, slots, e)
			}
			if First(slot, slots) != (slot == start) {
				t.Errorf("slot %d of %d: First, where its epoch begins at %d", slot, slots, start)
			}
			if got := Ends(0, slot, slots); len(got) != e {
				t.Errorf("slot %d of %d: %d epochs end ahead of it, want %d", slot, slots, len(got), e)
			}
		}
	}
}
