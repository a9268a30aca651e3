package octet

import (
	"bytes"
	"math"
	"testing"
)

// P1.1, Put.

func TestPutLaysNumbersHighBytesFirst(t *testing.T) {
	tests := []struct {
		name string
		b    []byte
		ns   []uint64
		want []byte
	}{
		{"nothing", nil, nil, nil},
		{"no bytes, no numbers", []byte{}, []uint64{}, nil},
		{"bytes alone", []byte("ab"), nil, []byte("ab")},
		{"one", nil, []uint64{1}, []byte{0, 0, 0, 0, 0, 0, 0, 1}},
		{"zero", nil, []uint64{0}, make([]byte, 8)},
		{"each byte unlike", nil, []uint64{0x0102030405060708}, []byte{1, 2, 3, 4, 5, 6, 7, 8}},
		{"greatest", nil, []uint64{math.MaxUint64}, bytes.Repeat([]byte{255}, 8)},
		{"high bit", nil, []uint64{1 << 63}, []byte{128, 0, 0, 0, 0, 0, 0, 0}},
		{"several behind bytes", []byte{9, 8}, []uint64{3, 256, 3},
			[]byte{9, 8, 0, 0, 0, 0, 0, 0, 0, 3, 0, 0, 0, 0, 0, 0, 1, 0, 0, 0, 0, 0, 0, 0, 0, 3}},
	}
	for _, x := range tests {
		if got := Put(x.b, x.ns...); !bytes.Equal(got, x.want) {
			t.Errorf("%s: %v, want %v", x.name, got, x.want)
		}
	}
}

func TestPutLeavesWhatIsHandedIn(t *testing.T) {
	whole := bytes.Repeat([]byte{7}, 32)
	ns := []uint64{1, 2}
	Put(whole[:4], ns...) // there is room behind the four that is not Put's
	if !bytes.Equal(whole, bytes.Repeat([]byte{7}, 32)) {
		t.Error("wrote into the caller's bytes", whole)
	}
	if ns[0] != 1 || ns[1] != 2 {
		t.Error("changed the numbers", ns)
	}
}

func TestPutAnswersNewMemory(t *testing.T) {
	for _, ns := range [][]uint64{nil, {1}} {
		b := make([]byte, 3, 64)
		out := Put(b, ns...)
		out[0] = 5
		if b[0] != 0 {
			t.Errorf("of %d numbers the answer shares memory with the bytes", len(ns))
		}
	}
	a := Put(nil, 1)
	if b, c := Put(a, 3), Put(a, 4); b[15] != 3 || c[15] != 4 {
		t.Error("two answers share memory", b, c)
	}
}

// P1.1, Get.

func TestGetReadsWherePutLaid(t *testing.T) {
	ns := []uint64{0, 1, 255, 256, 0x0102030405060708, math.MaxInt64, 1 << 63, math.MaxUint64}
	b := Put([]byte{1, 2, 3}, ns...)
	at := 3
	for _, want := range ns {
		n, end, ok := Get(b, at)
		if n != want || end != at+8 || !ok {
			t.Errorf("at %d: %d %d %v, want %d", at, n, end, ok, want)
		}
		at = end
	}
	if at != len(b) {
		t.Errorf("ended at %d of %d", at, len(b))
	}
}

func TestGetAtAnyPlace(t *testing.T) {
	b := []byte{1, 2, 3, 4, 5, 6, 7, 8, 9, 10}
	if n, end, ok := Get(b, 0); n != 0x0102030405060708 || end != 8 || !ok {
		t.Errorf("%x %d %v", n, end, ok)
	}
	if n, end, ok := Get(b, 2); n != 0x030405060708090a || end != 10 || !ok {
		t.Errorf("the last eight: %x %d %v", n, end, ok)
	}
}

func TestGetWhereEightAreNotAllThere(t *testing.T) {
	long := bytes.Repeat([]byte{1}, 10)
	places := []int{math.MinInt, math.MinInt + 1, -9, -8, -1, 3, 9, 10, 11, 100, math.MaxInt - 8, math.MaxInt - 7, math.MaxInt}
	for _, at := range places {
		if n, end, ok := Get(long, at); n != 0 || end != at || ok {
			t.Errorf("at %d: %d %d %v", at, n, end, ok)
		}
	}
	for size := range 8 {
		for _, at := range []int{-1, 0, 1, size} {
			if n, end, ok := Get(long[:size], at); n != 0 || end != at || ok {
				t.Errorf("%d bytes, at %d: %d %d %v", size, at, n, end, ok)
			}
		}
	}
	if n, end, ok := Get(nil, 0); n != 0 || end != 0 || ok {
		t.Error("nil", n, end, ok)
	}
}

// P1.2, Small.

func TestSmallIsGetUpToMost(t *testing.T) {
	tests := []struct {
		n    uint64
		most int
		ok   bool
	}{
		{0, 0, true},
		{1, 0, false},
		{5, 6, true},
		{5, 5, true},
		{5, 4, false},
		{5, math.MaxInt, true},
		{math.MaxInt, math.MaxInt, true},
		{math.MaxInt, math.MaxInt - 1, false},
		{1 << 63, math.MaxInt, false},
		{math.MaxUint64, math.MaxInt, false},
		{math.MaxUint64, 0, false},
	}
	for _, x := range tests {
		want, wantEnd := int(x.n), 9
		if !x.ok {
			want, wantEnd = 0, 1
		}
		n, end, ok := Small(Put([]byte{9}, x.n), 1, x.most)
		if n != want || end != wantEnd || ok != x.ok {
			t.Errorf("%d of most %d: %d %d %v", x.n, x.most, n, end, ok)
		}
	}
}

func TestSmallOfMostBelowZero(t *testing.T) {
	for _, most := range []int{-1, -5, math.MinInt} {
		for _, x := range []uint64{0, 1, 1 << 63, math.MaxUint64} {
			if n, end, ok := Small(Put(nil, x, x), 8, most); n != 0 || end != 8 || ok {
				t.Errorf("%d of most %d: %d %d %v", x, most, n, end, ok)
			}
		}
	}
}

func TestSmallWhereEightAreNotAllThere(t *testing.T) {
	b := Put(nil, 1)
	for _, most := range []int{math.MinInt, -1, 0, 1, math.MaxInt} {
		for _, at := range []int{math.MinInt, -1, 1, 8, 9, math.MaxInt} {
			if n, end, ok := Small(b, at, most); n != 0 || end != at || ok {
				t.Errorf("at %d, most %d: %d %d %v", at, most, n, end, ok)
			}
		}
		if n, end, ok := Small(nil, 0, most); n != 0 || end != 0 || ok {
			t.Errorf("nil, most %d: %d %d %v", most, n, end, ok)
		}
	}
}

// P1.2, First.

func TestFirst(t *testing.T) {
	tests := []struct {
		a, b string
		want int
	}{
		{"", "", -1},
		{"a", "a", -1},
		{"abc", "abc", -1},
		{"", "a", 0},
		{"a", "ab", 1},
		{"abc", "abcdef", 3},
		{"ab", "ac", 1},
		{"ab", "cb", 0},
		{"abcd", "axcy", 1},
		{"abx", "aby", 2},
		{"ab", "xbcd", 0},
		{"\x00", "\x00\x00", 1},
		{"\x00", "\xff", 0},
	}
	for _, x := range tests {
		if got := First([]byte(x.a), []byte(x.b)); got != x.want {
			t.Errorf("First(%q, %q): %d, want %d", x.a, x.b, got, x.want)
		}
		if got := First([]byte(x.b), []byte(x.a)); got != x.want {
			t.Errorf("First(%q, %q): %d, want %d", x.b, x.a, got, x.want)
		}
	}
}

func TestFirstOfNilAndEmpty(t *testing.T) {
	if First(nil, nil) != -1 || First(nil, []byte{}) != -1 || First([]byte{}, nil) != -1 {
		t.Error("lists without bytes are the same")
	}
	if First(nil, []byte{0}) != 0 || First([]byte{0}, nil) != 0 {
		t.Error("nil ends at 0")
	}
}

// W6: reading leaves the bytes as they were.
func TestReadingChangesNothing(t *testing.T) {
	a, b := Put(nil, 1, 2), Put(nil, 1, 3)
	Get(a, 0)
	Small(a, 8, 9)
	First(a, b)
	if !bytes.Equal(a, Put(nil, 1, 2)) || !bytes.Equal(b, Put(nil, 1, 3)) {
		t.Error(a, b)
	}
}
