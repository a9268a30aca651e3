package latest

import (
	"slices"
	"testing"
)

// All of it, held against the document's own words, with all votes that were taken in place of the last one.

// ballot is one vote of a book.
type ballot struct {
	epoch int
	root  uint64
}

// book is what each validator voted, one behind the other, and whom it bans, and when: 1 is the first one.
type book struct {
	size   int
	taken  map[int][]ballot
	banned map[int]int
}

func (b *book) in(who int) bool { return 0 <= who && who < b.size && b.banned[who] == 0 }

func (b *book) take(who, epoch int, root uint64) bool {
	if !b.in(who) {
		return false
	}
	for _, x := range b.taken[who] {
		if !(x.epoch < epoch) {
			return false
		}
	}
	b.taken[who] = append(b.taken[who], ballot{epoch, root})
	return true
}

func (b *book) ban(who int) bool {
	if !b.in(who) {
		return false
	}
	b.banned[who] = 1 + len(b.banned)
	return true
}

func (b *book) get(who int) (uint64, bool) {
	all := b.taken[who]
	if !b.in(who) || len(all) == 0 {
		return 0, false
	}
	return all[len(all)-1].root, true
}

// votes is the book as a list of entries.
func (b *book) votes() Votes {
	v := make(Votes, b.size)
	for who := range v {
		for _, x := range b.taken[who] {
			v[who] = Entry{Has: true, Epoch: x.epoch, Root: x.root}
		}
		v[who].Banned = b.banned[who] > 0
	}
	return v
}

// dice is a row of numbers that hang on where it begins alone.
type dice uint64

func (d *dice) below(n int) int {
	*d = *d*6364136223846793005 + 1442695040888963407
	return int(uint64(*d>>33) % uint64(n))
}

func TestAgainstTheBook(t *testing.T) {
	taken, late, banned := 0, 0, 0
	for seed := range 300 {
		d := dice(seed)
		n := d.below(8)
		v, b := Of(n), book{n, map[int][]ballot{}, map[int]int{}}
		for step := range 120 {
			who, epoch, root := d.below(n+4)-2, step/10-6+d.below(5), uint64(d.below(6))
			switch k := d.below(30); {
			case k == 0:
				got, want := v.Ban(who), b.ban(who)
				if got != want {
					t.Fatalf("seed %d, Ban(%d): %v, want %v", seed, who, got, want)
				}
				if got {
					banned++
				}
			default:
				got, want := v.Take(who, epoch, root), b.take(who, epoch, root)
				if got != want {
					t.Fatalf("seed %d, Take(%d, %d, %d): %v, want %v", seed, who, epoch, root, got, want)
				}
				if got {
					taken++
				} else if b.in(who) {
					late++
				}
			}
			checkBook(t, seed, v, &b)
		}
	}
	// Else it would say little.
	if taken < 5000 || late < 5000 || banned < 300 {
		t.Errorf("%d votes taken, %d too late, %d banned", taken, late, banned)
	}
}

func checkBook(t *testing.T, seed int, v Votes, b *book) {
	t.Helper()
	if !slices.Equal(v, b.votes()) {
		t.Fatalf("seed %d: %v, want %v", seed, v, b.votes())
	}
	for who := -2; who < b.size+2; who++ {
		root, ok := v.Get(who)
		if want, has := b.get(who); root != want || ok != has {
			t.Fatalf("seed %d, Get(%d): %d, %v, want %d, %v", seed, who, root, ok, want, has)
		}
	}
}
