package store

import (
	"errors"
	"maps"
	"math"
	"reflect"
	"slices"
	"testing"

	"psephos/api"
	"psephos/latest"
	"psephos/ledger"
	"psephos/viable"
	"psephos/weight"
)

// of is a configuration of so many slots an epoch, without a boost.
func of(slots int, balances ...uint64) api.Config {
	return api.Config{Balances: balances, Slots: slots}
}

func point(epoch int, root uint64) api.Point { return api.Point{Epoch: epoch, Root: root} }

// origin is what is justified and final at the beginning.
func origin() api.Point { return point(0, Genesis) }

func cast(slot int, head uint64, source, target api.Point, who ...int) api.Vote {
	return api.Vote{Slot: slot, Head: head, Source: source, Target: target, Who: who}
}

func tick(slot int) api.Event { return api.Event{Kind: api.Tick, Slot: slot} }

func block(root, parent uint64, slot int, votes ...api.Vote) api.Event {
	return api.Event{Kind: api.Propose, Block: api.Block{Root: root, Parent: parent, Slot: slot, Votes: votes}}
}

func attest(v api.Vote) api.Event { return api.Event{Kind: api.Attest, Vote: v} }

func prove(a, b api.Vote) api.Event {
	return api.Event{Kind: api.Slash, Proof: api.Proof{A: a, B: b}}
}

// with is a block that has proofs, too.
func with(e api.Event, proofs ...api.Proof) api.Event {
	e.Block.Proofs = proofs
	return e
}

func added(root, parent uint64) Change { return Change{Kind: Added, Root: root, Parent: parent} }

func first(who int, root uint64) Change { return Change{Kind: Moved, Root: root, Who: who} }

func moved(who int, from, root uint64) Change {
	return Change{Kind: Moved, Root: root, Who: who, From: from, Had: true}
}

func silent(who int) Change { return Change{Kind: Banned, Who: who} }

func banned(who int, from uint64) Change {
	return Change{Kind: Banned, Who: who, From: from, Had: true}
}

func cutTo(root uint64) Change { return Change{Kind: Cut, Root: root} }

// open is a store behind some events, all of which are taken.
func open(t *testing.T, c api.Config, es ...api.Event) *Store {
	t.Helper()
	s, err := Of(c)
	if err != nil {
		t.Fatal(err)
	}
	feed(t, s, es...)
	return s
}

func feed(t *testing.T, s *Store, es ...api.Event) {
	t.Helper()
	for _, e := range es {
		if _, err := s.Apply(e); err != nil {
			t.Fatalf("%+v: %v", e, err)
		}
	}
}

// sight is all that a store is, apart from it.
type sight struct {
	config           api.Config
	blocks           map[uint64][3]int
	kids             map[uint64][]uint64
	first            uint64
	votes            latest.Votes
	slot             int
	boosted          uint64
	justified, final api.Point
	records          map[uint64]record
	gone             map[uint64]struct{}
}

func look(s *Store) sight {
	out := sight{s.Config, map[uint64][3]int{}, map[uint64][]uint64{}, s.Tree.First(), slices.Clone(s.Votes), s.Slot, s.Boosted, s.Justified, s.Final, map[uint64]record{}, maps.Clone(s.gone)}
	out.config.Balances = slices.Clone(s.Config.Balances)
	for _, root := range s.Tree.Roots() {
		parent, slot, height, _ := s.Tree.Get(root)
		out.blocks[root] = [3]int{int(parent), slot, height}
		out.kids[root] = s.Tree.Kids(root)
	}
	for root, r := range s.records {
		r.ledger.Before, r.ledger.Now = slices.Clone(r.ledger.Before), slices.Clone(r.ledger.Now)
		out.records[root] = r
	}
	return out
}

// checkDone asks that an event is taken, and what is answered.
func checkDone(t *testing.T, name string, s *Store, e api.Event, want ...Change) {
	t.Helper()
	got, err := s.Apply(e)
	if err != nil {
		t.Errorf("%s: %v", name, err)
	}
	if !slices.Equal(got, want) {
		t.Errorf("%s: %+v, want %+v", name, got, want)
	}
	checkSound(t, name, s)
}

// checkFails asks that an event is not taken, and that nothing changes.
func checkFails(t *testing.T, name string, s *Store, e api.Event, want api.Errno) {
	t.Helper()
	was, view := look(s), s.View()
	got, err := s.Apply(e)
	if err == nil || api.Number(err) != want || !errors.Is(err, want) {
		t.Errorf("%s: error %v, want %v", name, err, want)
	}
	if len(got) != 0 {
		t.Errorf("%s: answered %+v", name, got)
	}
	if now := look(s); !reflect.DeepEqual(now, was) {
		t.Errorf("%s: behind it %+v, want %+v", name, now, was)
	}
	if now := s.View(); !reflect.DeepEqual(now, view) {
		t.Errorf("%s: behind it View %+v, want %+v", name, now, view)
	}
}

// checkSound asks for what holds of each store: a record of each block and of no other, none of which is gone; what is boosted is there.
func checkSound(t *testing.T, name string, s *Store) {
	t.Helper()
	if got := slices.Sorted(maps.Keys(s.records)); !slices.Equal(got, s.Tree.Roots()) {
		t.Errorf("%s: records of %v, blocks %v", name, got, s.Tree.Roots())
	}
	for root := range s.gone {
		if s.Tree.Has(root) {
			t.Errorf("%s: %d is there, and gone", name, root)
		}
	}
	if s.Boosted != 0 && !s.Tree.Has(s.Boosted) {
		t.Errorf("%s: %d is boosted, and not there", name, s.Boosted)
	}
	if s.Tree.First() != s.Final.Root || !s.Tree.Has(s.Justified.Root) {
		t.Errorf("%s: first %d, final %v, justified %v", name, s.Tree.First(), s.Final, s.Justified)
	}
}

func checkRoots(t *testing.T, name string, s *Store, want ...uint64) {
	t.Helper()
	if got := s.Tree.Roots(); !slices.Equal(got, want) {
		t.Errorf("%s: blocks %v, want %v", name, got, want)
	}
}

func checkPoints(t *testing.T, name string, s *Store, justified, final api.Point) {
	t.Helper()
	if s.Justified != justified || s.Final != final {
		t.Errorf("%s: justified %v, final %v, want %v, %v", name, s.Justified, s.Final, justified, final)
	}
	if v := s.View(); v.Justified != justified || v.Final != final {
		t.Errorf("%s: View: justified %v, final %v, want %v, %v", name, v.Justified, v.Final, justified, final)
	}
}

func checkBoosted(t *testing.T, name string, s *Store, want uint64) {
	t.Helper()
	if s.Boosted != want {
		t.Errorf("%s: %d is boosted, want %d", name, s.Boosted, want)
	}
}

// The chapter's example, and the document's, as far as a store has it.

func TestExample(t *testing.T) {
	s := open(t, of(4, 10, 10, 10), tick(3))
	checkDone(t, "the block 2 on 1", s, block(2, 1, 3), added(2, 1))
	checkBoosted(t, "behind it", s, 2)
	checkDone(t, "the next tick", s, tick(4))
	checkBoosted(t, "behind the next tick", s, 0)
}

func TestExampleOfTheDocument(t *testing.T) {
	s := open(t, of(4, 10, 10, 10), tick(5), block(2, 1, 4), block(3, 1, 5))
	weigh := func(two, three uint64) {
		t.Helper()
		a := weight.Of(s.Config, s.Tree, s.Votes, s.Boosted, 2)
		b := weight.Of(s.Config, s.Tree, s.Votes, s.Boosted, 3)
		if a != two || b != three {
			t.Errorf("2 weighs %d, 3 weighs %d, want %d, %d", a, b, two, three)
		}
	}
	weigh(0, 0)
	feed(t, s, tick(6))
	v := cast(5, 2, origin(), point(1, 2), 0, 1)
	checkDone(t, "0 and 1 vote for 2", s, attest(v), first(0, 2), first(1, 2))
	weigh(20, 0)
	w := cast(5, 3, origin(), point(1, 1), 0)
	checkDone(t, "0 voted twice", s, prove(v, w), banned(0, 2))
	weigh(10, 0)
	w.Who = []int{1}
	checkDone(t, "1 voted twice", s, prove(v, w), banned(1, 2))
	weigh(0, 0)
}

// P14.1, Of.

func many(n int, balance uint64) []uint64 { return slices.Repeat([]uint64{balance}, n) }

func TestOfConfigurationsThatMayNotBe(t *testing.T) {
	for _, x := range []struct {
		name string
		c    api.Config
	}{
		{"nothing", api.Config{}},
		{"no balances", of(4)},
		{"no balances, empty", of(4, []uint64{}...)},
		{"4097 balances", of(4, many(4097, 1)...)},
		{"a balance that is too great", of(4, 1, 1<<32+1, 1)},
		{"the last balance is too great", of(4, 1, 1, math.MaxUint64)},
		{"no slots", of(0, 1)},
		{"slots below 0", of(-1, 1)},
		{"far below 0", of(math.MinInt, 1)},
		{"65 slots", of(65, 1)},
		{"far too many slots", of(math.MaxInt, 1)},
		{"a boost below 0", api.Config{Balances: []uint64{1}, Slots: 4, Boost: -1}},
		{"a boost far below 0", api.Config{Balances: []uint64{1}, Slots: 4, Boost: math.MinInt}},
		{"a boost of 101", api.Config{Balances: []uint64{1}, Slots: 4, Boost: 101}},
		{"a boost far too great", api.Config{Balances: []uint64{1}, Slots: 4, Boost: math.MaxInt}},
	} {
		s, err := Of(x.c)
		if s != nil || !errors.Is(err, api.ErrConfig) || api.Number(err) != api.ErrConfig {
			t.Errorf("%s: %v, %v", x.name, s, err)
		}
	}
}

func TestOf(t *testing.T) {
	for _, c := range []api.Config{
		of(1, 1),
		of(1, 0),
		of(64, 1<<32),
		of(4, 10, 20, 30),
		{Balances: []uint64{1}, Slots: 1, Boost: 100},
		{Balances: many(4096, 1<<32), Slots: 64, Boost: 100},
		{Balances: many(4096, 0), Slots: 63, Boost: 1},
	} {
		s := open(t, c)
		if !reflect.DeepEqual(s.Config, c) {
			t.Errorf("Config %v, want %v", s.Config, c)
		}
		parent, slot, height, ok := s.Tree.Get(1)
		if s.Tree.Len() != 1 || s.Tree.First() != 1 || parent != 1 || slot != 0 || height != 0 || !ok {
			t.Errorf("%v: blocks %v, 1: %d, %d, %d, %v", c, s.Tree.Roots(), parent, slot, height, ok)
		}
		if !slices.Equal(s.Votes, make(latest.Votes, len(c.Balances))) {
			t.Errorf("%v: Votes %v", c, s.Votes)
		}
		if s.Slot != 0 || s.Boosted != 0 {
			t.Errorf("%v: Slot %d, Boosted %d", c, s.Slot, s.Boosted)
		}
		checkPoints(t, "at the beginning", s, point(0, 1), point(0, 1))
		if got := s.records[1].ledger; !reflect.DeepEqual(got, ledger.Open(c, 1)) {
			t.Errorf("%v: ledger %v", c, got)
		}
		checkView(t, "at the beginning", s, viable.View{Justified: point(0, 1), Final: point(0, 1), Sources: map[uint64]int{1: 0}})
		checkSound(t, "at the beginning", s)
	}
}

func TestGenesis(t *testing.T) {
	if Genesis != 1 {
		t.Errorf("Genesis: %d", Genesis)
	}
	if Added != 0 || Moved != 1 || Banned != 2 || Cut != 3 {
		t.Errorf("kinds: %d, %d, %d, %d", Added, Moved, Banned, Cut)
	}
}

func TestOfKeepsNothingThatIsHandedIn(t *testing.T) {
	c := of(1, 10, 10, 10)
	s, other := open(t, c), open(t, c)
	c.Balances[0], c.Balances[1] = 1000, 1<<40
	if !slices.Equal(s.Config.Balances, []uint64{10, 10, 10}) {
		t.Errorf("behind a change of the balances: %v", s.Config.Balances)
	}
	was := look(other)
	feed(t, s, tick(2), block(2, 1, 1), attest(cast(1, 2, origin(), point(1, 2), 0)))
	if !reflect.DeepEqual(look(other), was) {
		t.Errorf("behind a change of another store: %+v, want %+v", look(other), was)
	}
	// By the balances as they were two of three are enough.
	feed(t, s, block(3, 2, 2, cast(2, 3, origin(), point(2, 3), 1, 2)), tick(3), block(4, 3, 3))
	checkPoints(t, "two of three", s, point(2, 3), origin())
}

// P14.1, Apply's kinds.

func TestApplyOfKindsThatThereAreNot(t *testing.T) {
	v := cast(5, 3, origin(), point(1, 2), 0)
	w := cast(5, 2, origin(), point(1, 2), 0)
	for _, kind := range []api.EventKind{-1, -2, 4, 5, 9, 256, 257, 1 << 32, 1<<32 + 1, math.MinInt, math.MaxInt} {
		s := open(t, of(4, 10, 10), tick(6), block(2, 1, 3), block(3, 2, 5))
		e := api.Event{Kind: kind, Slot: 7, Block: api.Block{Root: 4, Parent: 3, Slot: 6}, Vote: v, Proof: api.Proof{A: v, B: w}}
		checkFails(t, "no such kind", s, e, api.ErrForm)
		checkFails(t, "no such kind, and no other part", s, api.Event{Kind: kind}, api.ErrForm)
	}
}

// Of each kind its own part alone counts.
func TestApplyByKind(t *testing.T) {
	v := cast(5, 3, origin(), point(1, 2), 0)
	w := cast(5, 2, origin(), point(1, 2), 0)
	e := api.Event{Slot: 7, Block: api.Block{Root: 4, Parent: 3, Slot: 6}, Vote: v, Proof: api.Proof{A: v, B: w}}
	for _, x := range []struct {
		kind    api.EventKind
		want    []Change
		slot    int
		blocks  []uint64
		boosted uint64
		entry   latest.Entry
	}{
		{api.Tick, nil, 7, []uint64{1, 2, 3}, 0, latest.Entry{}},
		{api.Propose, []Change{added(4, 3)}, 6, []uint64{1, 2, 3, 4}, 4, latest.Entry{}},
		{api.Attest, []Change{first(0, 3)}, 6, []uint64{1, 2, 3}, 0, latest.Entry{Has: true, Epoch: 1, Root: 3}},
		{api.Slash, []Change{silent(0)}, 6, []uint64{1, 2, 3}, 0, latest.Entry{Banned: true}},
	} {
		s := open(t, of(4, 10, 10), tick(6), block(2, 1, 3), block(3, 2, 5))
		e.Kind = x.kind
		checkDone(t, "by its kind", s, e, x.want...)
		if s.Slot != x.slot || s.Votes[0] != x.entry || s.Votes[1] != (latest.Entry{}) {
			t.Errorf("kind %d: Slot %d, Votes %v", x.kind, s.Slot, s.Votes)
		}
		checkRoots(t, "by its kind", s, x.blocks...)
		checkBoosted(t, "by its kind", s, x.boosted)
	}
}

// W1: a store that Of did not make takes nothing.
func TestStoreThatOfDidNotMake(t *testing.T) {
	v := cast(0, 1, origin(), origin(), 0)
	for _, s := range []*Store{{}, {Config: of(4, 10)}, {Config: of(4, 10), Slot: 9}} {
		for kind := api.EventKind(-1); kind < 5; kind++ {
			e := api.Event{Kind: kind, Slot: 20, Block: api.Block{Root: 2, Parent: 1, Slot: 1}, Vote: v, Proof: api.Proof{A: v, B: v}}
			slot := s.Slot
			if changes, err := s.Apply(e); api.Number(err) != api.ErrConfig || changes != nil || s.Slot != slot {
				t.Errorf("kind %d: %v, %v", kind, changes, err)
			}
		}
		if got := s.View(); len(got.Sources) != 0 {
			t.Errorf("View: %v", got)
		}
	}
}

// P14.2.

func TestTick(t *testing.T) {
	for _, x := range []struct {
		from, to int
		want     api.Errno
	}{
		{0, 1, 0},
		{0, 2, 0},
		{0, 0, api.ErrPast},
		{0, -1, api.ErrPast},
		{0, math.MinInt, api.ErrPast},
		{0, api.MaxSlot - 1, 0},
		{0, api.MaxSlot, 0},
		{0, api.MaxSlot + 1, api.ErrFuture},
		{0, math.MaxInt, api.ErrFuture},
		{7, 8, 0},
		{7, 900, 0},
		{7, 7, api.ErrPast},
		{7, 6, api.ErrPast},
		{7, 0, api.ErrPast},
		{7, -7, api.ErrPast},
		{7, api.MaxSlot, 0},
		{7, api.MaxSlot + 1, api.ErrFuture},
		{api.MaxSlot - 1, api.MaxSlot, 0},
		{api.MaxSlot, api.MaxSlot, api.ErrPast},
		{api.MaxSlot, api.MaxSlot - 1, api.ErrPast},
		{api.MaxSlot, 1, api.ErrPast},
		{api.MaxSlot, api.MaxSlot + 1, api.ErrFuture},
		{api.MaxSlot, math.MaxInt, api.ErrFuture},
	} {
		s := open(t, of(4, 10))
		if x.from > 0 {
			feed(t, s, tick(x.from))
		}
		if x.want != 0 {
			checkFails(t, "a tick", s, tick(x.to), x.want)
			continue
		}
		want := look(s)
		want.slot = x.to
		checkDone(t, "a tick", s, tick(x.to))
		if got := look(s); !reflect.DeepEqual(got, want) {
			t.Errorf("from %d to %d: %+v, want %+v", x.from, x.to, got, want)
		}
		if got := s.View().Epoch; got != x.to/4 {
			t.Errorf("from %d to %d: View's Epoch %d", x.from, x.to, got)
		}
	}
}

func TestTickEndsABoost(t *testing.T) {
	for _, to := range []int{4, 5, 900, api.MaxSlot} {
		s := open(t, of(4, 10), tick(3), block(2, 1, 3))
		checkBoosted(t, "ahead of the tick", s, 2)
		for _, wrong := range []int{-1, 0, 2, 3} {
			checkFails(t, "a tick that is not later", s, tick(wrong), api.ErrPast)
		}
		checkFails(t, "a tick that is too late", s, tick(api.MaxSlot+1), api.ErrFuture)
		checkBoosted(t, "behind ticks that are wrong", s, 2)
		want := look(s)
		want.slot, want.boosted = to, 0
		checkDone(t, "a tick", s, tick(to))
		if got := look(s); !reflect.DeepEqual(got, want) {
			t.Errorf("behind a tick: %+v, want %+v", got, want)
		}
	}
}

// W6, W2: what is handed in is not changed, nor kept, and what is answered is new memory.

func TestApplyKeepsNothingThatIsHandedIn(t *testing.T) {
	event := func() api.Event {
		v := cast(8, 3, origin(), point(2, 3), 0, 1, 2)
		return with(block(3, 2, 8, v, cast(7, 2, origin(), point(1, 2), 3)), api.Proof{A: cast(9, 5, origin(), point(2, 5), 0, 3), B: cast(9, 6, origin(), point(2, 5), 0, 3)})
	}
	e := event()
	s := open(t, of(4, 10, 10, 10, 10), tick(8), block(2, 1, 4))
	twin := open(t, of(4, 10, 10, 10, 10), tick(8), block(2, 1, 4))
	changes, _ := s.Apply(e)
	again, _ := twin.Apply(e)
	if !reflect.DeepEqual(e, event()) {
		t.Errorf("behind Apply: %+v, want %+v", e, event())
	}
	if !slices.Equal(changes, again) || !reflect.DeepEqual(look(s), look(twin)) {
		t.Errorf("another store: %+v, want %+v", again, changes)
	}
	clear(e.Block.Votes[0].Who)
	clear(e.Block.Proofs[0].A.Who)
	clear(e.Block.Votes)
	clear(e.Block.Proofs)
	clear(changes)
	want := []Change{added(3, 2), first(0, 3), first(1, 3), first(2, 3), first(3, 2), banned(0, 3), banned(3, 2)}
	if !slices.Equal(again, want) {
		t.Errorf("%+v, want %+v", again, want)
	}
	fresh := open(t, of(4, 10, 10, 10, 10), tick(8), block(2, 1, 4), event())
	if !reflect.DeepEqual(look(s), look(fresh)) {
		t.Errorf("behind a change of what was handed in: %+v, want %+v", look(s), look(fresh))
	}
}
