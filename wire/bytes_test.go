package wire

import (
	"bytes"
	"encoding/binary"
	"errors"
	"math"
	"reflect"
	"slices"
	"testing"

	"psephos/api"
)

// spelt is numbers as bytes, told apart from the layer below.
func spelt(ns ...uint64) []byte {
	var b []byte
	for _, n := range ns {
		b = binary.BigEndian.AppendUint64(b, n)
	}
	return b
}

// P4.2, Encode.

func TestEncodeBytes(t *testing.T) {
	v := []uint64{9, 3, 1, 4, 2, 5}
	of := func(parts ...[]uint64) []uint64 { return slices.Concat(parts...) }
	one := func(ns ...uint64) []uint64 { return ns }
	tests := []struct {
		name string
		es   []api.Event
		want []uint64
	}{
		{"none", nil, nil},
		{"the document's", []api.Event{tick(5)}, one(0, 5)},
		{"a tick of the greatest slot", []api.Event{tick(1 << 40)}, one(0, 1<<40)},
		{"an empty block", []api.Event{propose(votesOf())}, one(1, 6, 1, 8, 0, 0)},
		{"a block", []api.Event{full(api.Propose)}, of(one(1, 6, 1, 8, 2, 1), v, one(2, 1, 2), v, one(0), v, one(2, 5, 6), v, one(1, 7))},
		{"a block of the greatest roots", []api.Event{propose(api.Block{Root: math.MaxUint64, Parent: math.MaxUint64 - 1})}, one(1, math.MaxUint64, math.MaxUint64-1, 0, 0, 0)},
		{"a vote", []api.Event{full(api.Attest)}, of(one(2), v, one(2, 3, 4))},
		{"a vote of nobody", []api.Event{attest(voted())}, of(one(2), v, one(0))},
		{"a proof", []api.Event{full(api.Slash)}, of(one(3), v, one(2, 5, 6), v, one(1, 7))},
		{"several", []api.Event{tick(5), attest(voted(1)), slash(voted(2), voted()), tick(6)}, of(one(0, 5, 2), v, one(1, 1, 3), v, one(1, 2), v, one(0), one(0, 6))},
	}
	for _, x := range tests {
		got, ok := Encode(x.es...)
		if want := spelt(x.want...); !ok || !bytes.Equal(got, want) {
			t.Errorf("%s: Encode: %v, %v, want %v", x.name, got, ok, want)
		}
	}
}

func TestEncodeOfWhatMayAndMayNotBe(t *testing.T) {
	for _, x := range cases() {
		for _, es := range [][]api.Event{{x.e}, {tick(1), x.e}, {x.e, tick(1)}} {
			got, ok := Encode(es...)
			if ok != x.want || !ok && len(got) != 0 {
				t.Errorf("%s: Encode: %d bytes, %v, want %v", x.name, len(got), ok, x.want)
			}
		}
		bare, _ := Encode(Bare(x.e))
		if got, _ := Encode(x.e); !bytes.Equal(got, bare) {
			t.Errorf("%s: Encode: other bytes than of its Bare", x.name)
		}
	}
}

func TestEncodeOfManyEvents(t *testing.T) {
	es := repeat(4097, tick(7))
	if b, ok := Encode(es[:4096]...); !ok || len(b) != 4096*16 {
		t.Errorf("4096 events: %d bytes, %v", len(b), ok)
	}
	if b, ok := Encode(es...); ok || len(b) != 0 {
		t.Errorf("4097 events: %d bytes, %v", len(b), ok)
	}
}

// P4.3, Decode.

// wantBad asks for nothing, a place and ErrForm.
func wantBad(t *testing.T, name string, b []byte, want int) {
	t.Helper()
	es, at, err := Decode(b)
	if len(es) != 0 || at != want || !errors.Is(err, api.ErrForm) {
		t.Errorf("%s: Decode: %d events, %d, %v, want none, %d, ErrForm", name, len(es), at, err, want)
	}
}

// wantEvents asks for events, the bytes' length and no error.
func wantEvents(t *testing.T, name string, b []byte, want []api.Event) {
	t.Helper()
	es, at, err := Decode(b)
	if at != len(b) || err != nil || !slices.EqualFunc(es, want, same) {
		t.Errorf("%s: Decode: %d events, %d, %v, want %d, %d, or they differ", name, len(es), at, err, len(want), len(b))
	}
}

func TestDecodeOfEncoded(t *testing.T) {
	for _, x := range cases() {
		if !x.want {
			continue
		}
		b, _ := Encode(x.e, tick(1), x.e)
		wantEvents(t, x.name, b, []api.Event{Bare(x.e), tick(1), Bare(x.e)})
	}
	wantEvents(t, "nil", nil, nil)
	wantEvents(t, "empty", []byte{}, nil)
	wantEvents(t, "the document's", spelt(0, 5), []api.Event{tick(5)})
}

// mixed is events of each kind, several of some.
func mixed() []api.Event {
	return []api.Event{tick(5), full(api.Propose), full(api.Attest), tick(1 << 40), full(api.Slash), attest(voted()), propose(votesOf())}
}

func TestDecodeOfBytesThatEndTooEarly(t *testing.T) {
	es := mixed()
	b, _ := Encode(es...)
	whole := map[int]int{0: 0} // how many events end at a place
	for i := range es {
		ahead, _ := Encode(es[:i+1]...)
		whole[len(ahead)] = i + 1
	}
	for n := range b {
		if count, ok := whole[n]; ok {
			bare := make([]api.Event, 0, count)
			for _, e := range es[:count] {
				bare = append(bare, Bare(e))
			}
			wantEvents(t, "cut between events", b[:n], bare)
			continue
		}
		wantBad(t, "cut", b[:n], n/8*8)
	}
}

// bounded is events of each kind, number by number, and what each number may be at most.
func bounded() (ns, most []uint64) {
	const free, time = uint64(math.MaxUint64), uint64(1 << 40)
	vote := func() {
		ns = append(ns, 9, 3, 1, 4, 2, 5, 2, 0, 4095)
		most = append(most, time, free, time, free, time, free, 4096, 4095, 4095)
	}
	head := func(n, m []uint64) { ns, most = append(ns, n...), append(most, m...) }
	head([]uint64{0, 5}, []uint64{3, time})
	head([]uint64{2}, []uint64{3})
	vote()
	head([]uint64{3}, []uint64{3})
	vote()
	vote()
	head([]uint64{1, 6, 1, 8, 1, 2}, []uint64{3, free, free, time, 16, 16})
	for range 5 {
		vote()
	}
	head([]uint64{0, 7}, []uint64{3, time})
	return ns, most
}

func TestDecodeOfNumbersAboveTheirBound(t *testing.T) {
	ns, most := bounded()
	if _, at, err := Decode(spelt(ns...)); at != 8*len(ns) || err != nil {
		t.Fatalf("as it is: %d, %v", at, err)
	}
	for i, m := range most {
		wrong := slices.Clone(ns)
		if m == math.MaxUint64 {
			wrong[i] = m
			if _, at, err := Decode(spelt(wrong...)); at != 8*len(ns) || err != nil {
				t.Errorf("number %d of any size: %d, %v", i, at, err)
			}
			continue
		}
		for _, n := range []uint64{m + 1, 1 << 63, 1<<63 + 1, math.MaxUint64} {
			wrong[i] = n
			wantBad(t, "above its bound", spelt(wrong...), 8*i)
			wantBad(t, "above its bound, and the last one there", spelt(wrong[:i+1]...), 8*i)
			wantBad(t, "above its bound, and one byte of another", append(spelt(wrong[:i+1]...), 1), 8*i)
			cut := spelt(wrong[:i+1]...)
			wantBad(t, "above its bound, and not all there", cut[:len(cut)-1], 8*i)
		}
	}
}

func TestDecodeOfNumbersAtTheirBound(t *testing.T) {
	ns, most := bounded()
	for i, m := range most {
		if m != 1<<40 && m != 4095 {
			continue
		}
		for _, n := range []uint64{0, m} {
			right := slices.Clone(ns)
			right[i] = n
			if _, at, err := Decode(spelt(right...)); at != 8*len(ns) || err != nil {
				t.Errorf("number %d of %d: %d, %v", i, n, at, err)
			}
		}
	}
}

func TestDecodeTellsTheFirstFault(t *testing.T) {
	wantBad(t, "a kind, and then a slot", spelt(0, 5, 4, 1<<41), 16)
	wantBad(t, "a slot, and then a kind", spelt(0, 1<<41, 4, 5), 8)
	wantBad(t, "too many votes and proofs", spelt(1, 6, 1, 8, 17, 17), 32)
	wantBad(t, "too many proofs of votes that are not there", spelt(1, 6, 1, 8, 16, 17), 40)
	wantBad(t, "votes that are not there", spelt(1, 6, 1, 8, 16, 16), 48)
	wantBad(t, "validators that are not there", spelt(2, 9, 3, 1, 4, 2, 5, 4096), 64)
	wantBad(t, "too many validators", spelt(2, 9, 3, 1, 4, 2, 5, 4097, 4096), 56)
	wantBad(t, "the second of three validators", spelt(2, 9, 3, 1, 4, 2, 5, 3, 1, 4096, 4096), 72)
}

func TestDecodeOfManyValidators(t *testing.T) {
	who := make([]int, 4096)
	for i := range who {
		who[i] = i
	}
	b, ok := Encode(attest(voted(who...)))
	if !ok || len(b) != 8*(8+4096) {
		t.Fatalf("4096 validators: %d bytes, %v", len(b), ok)
	}
	wantEvents(t, "4096 validators", b, []api.Event{attest(voted(who...))})
	wantBad(t, "4096 validators but one byte", b[:len(b)-1], len(b)-8)
}

func TestDecodeOfManyEvents(t *testing.T) {
	es := repeat(4096, tick(7))
	es[4095] = attest(voted(1))
	b, _ := Encode(es...)
	wantEvents(t, "4096 events", b, es)
	for _, behind := range [][]byte{{0}, spelt(0), spelt(0, 5), spelt(4), spelt(0, 1<<41), b} {
		wantBad(t, "bytes behind 4096 events", append(slices.Clone(b), behind...), len(b))
	}
	wantBad(t, "the last of 4096 cut", b[:len(b)-8], len(b)-8)
}

// W6.

func TestNothingHandedInIsChanged(t *testing.T) {
	es := mixed()
	for _, e := range es {
		May(e)
		Bare(e)
	}
	b, _ := Encode(es...)
	if !reflect.DeepEqual(es, mixed()) {
		t.Error("events were changed")
	}
	was := slices.Clone(b)
	Decode(b)
	if !bytes.Equal(b, was) {
		t.Error("Decode changed its bytes")
	}
}

func TestAnswersAreNewMemory(t *testing.T) {
	b, _ := Encode(mixed()...)
	again, _ := Encode(mixed()...)
	es, _, _ := Decode(b)
	others, _, _ := Decode(b)
	for _, e := range es {
		spoil(e)
	}
	if !bytes.Equal(b, again) || others[1].Block.Votes[0].Who[0] != 1 {
		t.Error("Decode's events share memory")
	}
	clear(b)
	if others[2].Vote.Who[0] != 3 || again[15] != 5 {
		t.Error("bytes share memory")
	}
}
