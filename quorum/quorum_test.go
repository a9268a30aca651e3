package quorum

import (
	"math"
	"math/big"
	"testing"
)

// times is a product without a limit.
func times(n int64, of uint64) *big.Int {
	return new(big.Int).Mul(big.NewInt(n), new(big.Int).SetUint64(of))
}

// enough is Enough as the document says it, of numbers without a limit.
func enough(some, all uint64) bool {
	return all > 0 && times(3, some).Cmp(times(2, all)) >= 0
}

// third is Third as the document says it, of numbers without a limit.
func third(some, all uint64) bool {
	return all > 0 && times(3, some).Cmp(times(1, all)) >= 0
}

// meet is Meet as the document says it, of numbers without a limit.
func meet(a, b, all uint64) uint64 {
	if a > all || b > all {
		return 0
	}
	over := new(big.Int).Add(times(1, a), times(1, b))
	over.Sub(over, times(1, all))
	if over.Sign() <= 0 {
		return 0
	}
	return over.Uint64()
}

// near is a number and those up to three below and above it, going round at the ends.
func near(n uint64) []uint64 {
	return []uint64{n - 3, n - 2, n - 1, n, n + 1, n + 2, n + 3}
}

// edges are numbers at and next to those where a sum, or two or three times a number, stops to fit.
func edges() []uint64 {
	const most = math.MaxUint64
	var ns []uint64
	for _, n := range []uint64{3, 10, 1 << 31, 1 << 32, 1 << 53, 1 << 62, most / 3, most / 2, most / 3 * 2, most - 3} {
		ns = append(ns, near(n)...)
	}
	return append(ns, most/4, most/4*3, most/9, most/9*2)
}

// P7.1, Enough.

func TestEnough(t *testing.T) {
	const most = math.MaxUint64 // three divides it
	tests := []struct {
		name      string
		some, all uint64
		want      bool
	}{
		{"the example's two of three", 2, 3, true},
		{"the example's one of two", 1, 2, false},
		{"none of none", 0, 0, false},
		{"one of none", 1, 0, false},
		{"the greatest of none", most, 0, false},
		{"none of one", 0, 1, false},
		{"one of one", 1, 1, true},
		{"none of two", 0, 2, false},
		{"two of two", 2, 2, true},
		{"a third", 1, 3, false},
		{"one below two thirds", 19, 30, false},
		{"two thirds", 20, 30, true},
		{"one above two thirds", 21, 30, true},
		{"one left over of all: below", 20, 31, false},
		{"one left over of all: above", 21, 31, true},
		{"two left over of all: below", 21, 32, false},
		{"two left over of all: above", 22, 32, true},
		{"none of many", 0, 30, false},
		{"all", 30, 30, true},
		{"one above all", 31, 30, true},
		{"far above all", most, 30, true},
		{"twice all goes round: below", 1 << 62, 1 << 63, false},
		{"twice all goes round to 0: none", 0, 1 << 63, false},
		{"three times some goes round: below", most / 3, most, false},
		{"three times some goes round, little is left: below", most/3 + 1, most, false},
		{"three times some goes round: all is small", most/3 + 1, 3, true},
		{"the greatest: one below two thirds", most/3*2 - 1, most, false},
		{"the greatest: two thirds", most / 3 * 2, most, true},
		{"the greatest: one above two thirds", most/3*2 + 1, most, true},
		{"one below the greatest: below", most/3*2 - 1, most - 1, false},
		{"one below the greatest: above", most / 3 * 2, most - 1, true},
		{"two below the greatest: below", most/3*2 - 2, most - 2, false},
		{"two below the greatest: above", most/3*2 - 1, most - 2, true},
		{"the greatest of itself", most, most, true},
	}
	for _, x := range tests {
		if got := Enough(x.some, x.all); got != x.want {
			t.Errorf("%s: Enough(%d, %d): %v, want %v", x.name, x.some, x.all, got, x.want)
		}
	}
}

// P7.1, Third.

func TestThird(t *testing.T) {
	const most = math.MaxUint64 // three divides it
	tests := []struct {
		name      string
		some, all uint64
		want      bool
	}{
		{"the example's one of three", 1, 3, true},
		{"none of none", 0, 0, false},
		{"one of none", 1, 0, false},
		{"the greatest of none", most, 0, false},
		{"none of one", 0, 1, false},
		{"one of one", 1, 1, true},
		{"none of two", 0, 2, false},
		{"one of two", 1, 2, true},
		{"none of three", 0, 3, false},
		{"one of four", 1, 4, false},
		{"one below a third", 9, 30, false},
		{"a third", 10, 30, true},
		{"one above a third", 11, 30, true},
		{"one left over of all: below", 10, 31, false},
		{"one left over of all: above", 11, 31, true},
		{"two left over of all: below", 10, 32, false},
		{"two left over of all: above", 11, 32, true},
		{"none of many", 0, 30, false},
		{"two thirds", 20, 30, true},
		{"all", 30, 30, true},
		{"one above all", 31, 30, true},
		{"far above all", most, 30, true},
		{"none of the greatest", 0, most, false},
		{"three times some goes round, little is left", most/3 + 1, most, true},
		{"three times some goes round: all is small", most/3 + 1, 3, true},
		{"the greatest: one below a third", most/3 - 1, most, false},
		{"the greatest: a third", most / 3, most, true},
		{"the greatest: one above a third", most/3 + 1, most, true},
		{"one below the greatest: below", most/3 - 1, most - 1, false},
		{"one below the greatest: above", most / 3, most - 1, true},
		{"two below the greatest: below", most/3 - 1, most - 2, false},
		{"two below the greatest: above", most / 3, most - 2, true},
		{"three below the greatest: a third", most/3 - 1, most - 3, true},
		{"the greatest of itself", most, most, true},
	}
	for _, x := range tests {
		if got := Third(x.some, x.all); got != x.want {
			t.Errorf("%s: Third(%d, %d): %v, want %v", x.name, x.some, x.all, got, x.want)
		}
	}
}

// P7.1, Meet.

func TestMeet(t *testing.T) {
	const most = math.MaxUint64
	tests := []struct {
		name      string
		a, b, all uint64
		want      uint64
	}{
		{"the example", 2, 2, 3, 1},
		{"nothing of nothing", 0, 0, 0, 0},
		{"one of nothing", 1, 0, 0, 0},
		{"both above nothing", 1, 1, 0, 0},
		{"nothing of many", 0, 0, 30, 0},
		{"far below all together", 10, 5, 30, 0},
		{"one below all together", 20, 9, 30, 0},
		{"all together", 20, 10, 30, 0},
		{"one above all together", 20, 11, 30, 1},
		{"far above all together", 29, 28, 30, 27},
		{"two quorums", 20, 20, 30, 10},
		{"one is all, the other nothing", 30, 0, 30, 0},
		{"one is all, the other one", 30, 1, 30, 1},
		{"one is all, the other not", 30, 7, 30, 7},
		{"both are all", 30, 30, 30, 30},
		{"one is one above all, the other nothing", 31, 0, 30, 0},
		{"one is one above all, the other not", 31, 7, 30, 0},
		{"one is one above all, the other all", 31, 30, 30, 0},
		{"both are one above all", 31, 31, 30, 0},
		{"one is the greatest", most, 7, 30, 0},
		{"both are the greatest", most, most, 30, 0},
		{"a sum that goes round to less than all", most, 2, most, 2},
		{"a sum that goes round to 0", 1 << 63, 1 << 63, most, 1},
		{"the greatest: one below together", 1 << 63, 1<<63 - 2, most, 0},
		{"the greatest: together", 1 << 63, 1<<63 - 1, most, 0},
		{"the greatest: two quorums", most / 3 * 2, most / 3 * 2, most, most / 3},
		{"one below the greatest: above it", most, 1, most - 1, 0},
		{"one below the greatest: at it", most - 1, most - 1, most - 1, most - 1},
		{"all are the greatest", most, most, most, most},
	}
	for _, x := range tests {
		if got, back := Meet(x.a, x.b, x.all), Meet(x.b, x.a, x.all); got != x.want || back != x.want {
			t.Errorf("%s: Meet(%d, %d, %d): %d, and %d the other way, want %d", x.name, x.a, x.b, x.all, got, back, x.want)
		}
	}
}

// P7.1, against the document's own words in numbers without a limit.

func TestSmallNumbers(t *testing.T) {
	const most = 40
	for all := range uint64(most) {
		for a := range uint64(most) {
			checkParts(t, a, all)
			for b := range uint64(most) {
				checkMeet(t, a, b, all)
			}
		}
	}
}

func TestNumbersAtTheEdges(t *testing.T) {
	ns := edges()
	for _, all := range ns {
		for _, a := range ns {
			checkParts(t, a, all)
			for _, b := range ns {
				checkMeet(t, a, b, all)
			}
		}
	}
}

// The places where an answer turns are asked for by themselves: those of a great number are not near any edge.
func TestWhereAnswersTurn(t *testing.T) {
	for _, all := range edges() {
		for _, some := range append(near(all/3), near(all/3*2)...) {
			checkParts(t, some, all)
			for _, b := range near(all - some) {
				checkMeet(t, some, b, all)
			}
		}
	}
}

func checkParts(t *testing.T, some, all uint64) {
	t.Helper()
	if got, want := Enough(some, all), enough(some, all); got != want {
		t.Errorf("Enough(%d, %d): %v, want %v", some, all, got, want)
	}
	if got, want := Third(some, all), third(some, all); got != want {
		t.Errorf("Third(%d, %d): %v, want %v", some, all, got, want)
	}
}

func checkMeet(t *testing.T, a, b, all uint64) {
	t.Helper()
	if got, want := Meet(a, b, all), meet(a, b, all); got != want {
		t.Errorf("Meet(%d, %d, %d): %d, want %d", a, b, all, got, want)
	}
}

// T3: two parts that are Enough have a third of all in both.
func TestTwoQuorumsMeetInAThird(t *testing.T) {
	for _, all := range edges() {
		for _, a := range append(near(all/3*2), all) {
			for _, b := range append(near(all/3*2), all) {
				if a > all || b > all || !Enough(a, all) || !Enough(b, all) {
					continue
				}
				if !Third(Meet(a, b, all), all) {
					t.Errorf("%d and %d of %d are Enough, and meet in %d, less than a third", a, b, all, Meet(a, b, all))
				}
			}
		}
	}
}
