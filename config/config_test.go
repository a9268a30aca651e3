package config

import (
	"bytes"
	"math"
	"slices"
	"testing"

	"psephos/api"
	"psephos/octet"
)

// of is a configuration that may be, but for what a test hands in.
func of(slots, boost int, balances ...uint64) api.Config {
	return api.Config{Balances: balances, Slots: slots, Boost: boost}
}

// many is so many balances of one size.
func many(count int, balance uint64) []uint64 {
	return slices.Repeat([]uint64{balance}, count)
}

// greatest is the number behind which sums begin at 0 again.
const greatest = math.MaxUint64

// configs is all that P3.1's May, and with it P3.2's Encode and Decode, are asked of.
func configs() []struct {
	name string
	c    api.Config
	want bool
} {
	return []struct {
		name string
		c    api.Config
		want bool
	}{
		{"the document's", of(2, 50, 10, 20, 30), true},
		{"zero", api.Config{}, false},
		{"nil balances", of(2, 50), false},
		{"empty balances", of(2, 50, []uint64{}...), false},
		{"one balance", of(2, 50, 7), true},
		{"a balance of 0", of(2, 50, 0), true},
		{"as many as there may be", of(2, 50, many(api.MaxValidators, 3)...), true},
		{"one more", of(2, 50, many(api.MaxValidators+1, 3)...), false},
		{"the greatest balance", of(2, 50, api.MaxBalance), true},
		{"one above it", of(2, 50, api.MaxBalance+1), false},
		{"the first above it", of(2, 50, api.MaxBalance+1, 1, 1), false},
		{"the last above it", of(2, 50, 1, 1, api.MaxBalance+1), false},
		{"all of the greatest balance", of(2, 50, many(api.MaxValidators, api.MaxBalance)...), true},
		{"the greatest number", of(2, 50, greatest), false},
		{"slots 0", of(0, 50, 1), false},
		{"slots 1", of(1, 50, 1), true},
		{"slots 64", of(64, 50, 1), true},
		{"slots 65", of(65, 50, 1), false},
		{"slots -1", of(-1, 50, 1), false},
		{"least slots", of(math.MinInt, 50, 1), false},
		{"greatest slots", of(math.MaxInt, 50, 1), false},
		{"boost 0", of(2, 0, 1), true},
		{"boost 1", of(2, 1, 1), true},
		{"boost 100", of(2, 100, 1), true},
		{"boost 101", of(2, 101, 1), false},
		{"boost -1", of(2, -1, 1), false},
		{"least boost", of(2, math.MinInt, 1), false},
		{"greatest boost", of(2, math.MaxInt, 1), false},
	}
}

// P3.1, May.

func TestMay(t *testing.T) {
	for _, x := range configs() {
		if got := May(x.c); got != x.want {
			t.Errorf("%s: May: %v, want %v", x.name, got, x.want)
		}
	}
}

// P3.1, Sum.

func TestSum(t *testing.T) {
	c := of(2, 50, 10, 20, 30)
	tests := []struct {
		name string
		c    api.Config
		who  []int
		want uint64
	}{
		{"nobody", c, nil, 0},
		{"the first", c, []int{0}, 10},
		{"the last", c, []int{2}, 30},
		{"all", c, []int{0, 1, 2}, 60},
		{"falling", c, []int{2, 0}, 40},
		{"told twice", c, []int{1, 1}, 40},
		{"told twice, apart", c, []int{2, 0, 2}, 70},
		{"one behind the last", c, []int{3}, 0},
		{"one ahead of the first", c, []int{-1}, 0},
		{"others between", c, []int{-1, 0, 3, 1}, 30},
		{"least and greatest", c, []int{math.MinInt, 2, math.MaxInt}, 30},
		{"no balances", api.Config{}, []int{0, 1}, 0},
		{"going round", of(2, 50, greatest, 3), []int{0, 1}, 2},
		{"going round by one told twice", of(2, 50, 1<<63), []int{0, 0}, 0},
		{"of what may not be", of(0, -1, 5, 6), []int{1}, 6},
		{"behind the greatest count", of(2, 50, many(api.MaxValidators+2, 9)...), []int{api.MaxValidators + 1}, 9},
	}
	for _, x := range tests {
		if got := Sum(x.c, x.who...); got != x.want {
			t.Errorf("%s: Sum(%v): %d, want %d", x.name, x.who, got, x.want)
		}
	}
	if got := Sum(c, 2, 0, 2, 9, -1); got != 70 {
		t.Errorf("told one by one: %d, want 70", got)
	}
}

// P3.1, Total.

func TestTotal(t *testing.T) {
	tests := []struct {
		name string
		c    api.Config
		want uint64
	}{
		{"the document's", of(2, 50, 10, 20, 30), 60},
		{"none", of(2, 50), 0},
		{"one", of(2, 50, 7), 7},
		{"of 0", of(2, 50, 0, 0), 0},
		{"all of the greatest balance", of(2, 50, many(api.MaxValidators, api.MaxBalance)...), 1 << 44},
		{"more than there may be", of(2, 50, many(api.MaxValidators+1, 2)...), 2*api.MaxValidators + 2},
		{"going round", of(2, 50, greatest, 1), 0},
		{"going round, and on", of(2, 50, greatest, greatest, 5), 3},
		{"of slots and a boost that may not be", of(0, -1, 5, 6), 11},
	}
	for _, x := range tests {
		if got := Total(x.c); got != x.want {
			t.Errorf("%s: Total: %d, want %d", x.name, got, x.want)
		}
	}
}

func TestTotalIsTheSumOfAll(t *testing.T) {
	for _, x := range configs() {
		all := make([]int, len(x.c.Balances))
		for i := range all {
			all[i] = i
		}
		if got, want := Total(x.c), Sum(x.c, all...); got != want {
			t.Errorf("%s: Total %d, Sum of all %d", x.name, got, want)
		}
	}
}

// P3.1, Boost.

func TestBoost(t *testing.T) {
	tests := []struct {
		name string
		c    api.Config
		want uint64
	}{
		{"the document's", of(2, 50, 10, 20, 30), 15},
		{"no balances", of(2, 50), 0},
		{"boost 0", of(2, 0, 6000), 0},
		{"boost 1", of(1, 1, 100), 1},
		{"boost 1, too little", of(1, 1, 99), 0},
		{"boost 100", of(2, 100, 60), 30},
		{"slots 64", of(64, 100, 640), 10},
		{"the share is rounded down first", of(2, 50, 3), 0},
		{"the share is rounded down, then the percents", of(7, 40, 69), 3},
		{"the product comes ahead of the hundredths", of(1, 50, 3), 1},
		{"less than a slot each", of(64, 100, 63), 0},
		{"slots 0 count as 1", of(0, 100, 60), 60},
		{"slots -1 count as 1", of(-1, 100, 60), 60},
		{"least slots count as 1", of(math.MinInt, 100, 60), 60},
		{"slots above their bound count", of(70, 100, 700), 10},
		{"greatest slots", of(math.MaxInt, 100, math.MaxInt), 1},
		{"boost -1 counts as 0", of(2, -1, 6000), 0},
		{"least boost counts as 0", of(2, math.MinInt, 6000), 0},
		{"both below", of(-1, -1, 60), 0},
		{"boost above its bound counts", of(2, 300, 60), 90},
		{"the product goes round", of(1, 100, 1<<62), 0},
		{"the product goes round, and on", of(1, 101, greatest), (1<<64 - 101) / 100},
		{"greatest boost", of(1, math.MaxInt, 2), (1<<64 - 2) / 100},
		{"all that may be", of(1, 100, many(api.MaxValidators, api.MaxBalance)...), 1 << 44},
	}
	for _, x := range tests {
		if got := Boost(x.c); got != x.want {
			t.Errorf("%s: Boost: %d, want %d", x.name, got, x.want)
		}
	}
}

// P3.2, Encode.

func TestEncodeBytes(t *testing.T) {
	got := Encode(of(2, 50, 10, api.MaxBalance, 0))
	want := []byte{
		0, 0, 0, 0, 0, 0, 0, 2,
		0, 0, 0, 0, 0, 0, 0, 50,
		0, 0, 0, 0, 0, 0, 0, 3,
		0, 0, 0, 0, 0, 0, 0, 10,
		0, 0, 0, 1, 0, 0, 0, 0,
		0, 0, 0, 0, 0, 0, 0, 0,
	}
	if !bytes.Equal(got, want) {
		t.Errorf("Encode: %v, want %v", got, want)
	}
}

func TestEncodeOfWhatMayAndMayNotBe(t *testing.T) {
	for _, x := range configs() {
		want := []byte(nil)
		if x.want {
			want = spelt(x.c)
		}
		if got := Encode(x.c); !bytes.Equal(got, want) {
			t.Errorf("%s: Encode: %d bytes, want %d, or they differ", x.name, len(got), len(want))
		}
	}
}

// spelt is the bytes that a configuration would have, may it be or not.
func spelt(c api.Config) []byte {
	b := octet.Put(nil, uint64(c.Slots), uint64(c.Boost), uint64(len(c.Balances)))
	return octet.Put(b, c.Balances...)
}

// P3.2, Decode.

func TestDecodeOfWhatMayAndMayNotBe(t *testing.T) {
	for _, x := range configs() {
		for _, behind := range [][]byte{nil, {7}, make([]byte, 64)} {
			b := append(spelt(x.c), behind...)
			c, at, ok := Decode(b)
			if !x.want {
				wantNone(t, x.name, c, at, ok)
				continue
			}
			if !ok || at != len(b)-len(behind) || !same(c, x.c) {
				t.Errorf("%s, %d bytes behind: Decode: %v, %d, %v", x.name, len(behind), c, at, ok)
			}
		}
	}
}

func TestDecodeOfBytesThatEndTooEarly(t *testing.T) {
	b := Encode(of(2, 50, 10, 20, 30))
	for n := range b {
		c, at, ok := Decode(b[:n])
		wantNone(t, "cut", c, at, ok)
	}
	c, at, ok := Decode(nil)
	wantNone(t, "nil", c, at, ok)
}

func TestDecodeOfWrongBytes(t *testing.T) {
	tests := []struct {
		name string
		ns   []uint64
	}{
		{"all 0", []uint64{0, 0, 0, 0}},
		{"slots of 2^32 and 1", []uint64{1<<32 + 1, 50, 1, 10}},
		{"slots of 2^63", []uint64{1 << 63, 50, 1, 10}},
		{"boost of 2^63", []uint64{2, 1 << 63, 1, 10}},
		{"boost of 2^32", []uint64{2, 1 << 32, 1, 10}},
		{"a count of 2^63", []uint64{2, 50, 1 << 63, 10}},
		{"the greatest count", []uint64{2, 50, greatest, 10}},
		{"a count of 4096 and too few", []uint64{2, 50, 4096, 10}},
		{"a count above what is there", []uint64{2, 50, 2, 10}},
		{"the greatest of all", []uint64{greatest, greatest, greatest, greatest}},
	}
	for _, x := range tests {
		c, at, ok := Decode(octet.Put(nil, x.ns...))
		wantNone(t, x.name, c, at, ok)
	}
}

func TestDecodeOfAnotherBehind(t *testing.T) {
	one, two := of(2, 50, 10, 20), of(64, 100, 1)
	b := append(Encode(one), Encode(two)...)
	c, at, ok := Decode(b)
	if !ok || at != 40 || !same(c, one) {
		t.Fatalf("the first: %v, %d, %v", c, at, ok)
	}
	c, at, ok = Decode(b[at:])
	if !ok || at != 32 || !same(c, two) {
		t.Errorf("the second: %v, %d, %v", c, at, ok)
	}
}

// same tells whether two configurations are.
func same(a, b api.Config) bool {
	return a.Slots == b.Slots && a.Boost == b.Boost && slices.Equal(a.Balances, b.Balances)
}

// wantNone asks for a zero configuration, 0 and false.
func wantNone(t *testing.T, name string, c api.Config, at int, ok bool) {
	t.Helper()
	if ok || at != 0 || c.Slots != 0 || c.Boost != 0 || len(c.Balances) != 0 {
		t.Errorf("%s: Decode: %v, %d, %v, want zero, 0, false", name, c, at, ok)
	}
}

// W6.

func TestNothingHandedInIsChanged(t *testing.T) {
	c, who := of(2, 50, 10, 20, 30), []int{2, 0, 2, 9, -1}
	May(c)
	Total(c)
	Sum(c, who...)
	Boost(c)
	b := Encode(c)
	if !same(c, of(2, 50, 10, 20, 30)) || !slices.Equal(who, []int{2, 0, 2, 9, -1}) {
		t.Errorf("changed: %v, %v", c, who)
	}
	Decode(b)
	if !bytes.Equal(b, spelt(c)) {
		t.Error("Decode changed its bytes")
	}
}

func TestAnswersAreNewMemory(t *testing.T) {
	c := of(2, 50, 10, 20, 30)
	b := Encode(c)
	d, _, _ := Decode(b)
	e, _, _ := Decode(b)
	d.Balances[0] = 99
	b[31] = 98
	if c.Balances[0] != 10 || e.Balances[0] != 10 {
		t.Error("Decode's balances share memory")
	}
	if again := Encode(c); again[31] != 10 {
		t.Error("Encode's bytes share memory")
	}
}
