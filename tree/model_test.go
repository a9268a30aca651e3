package tree

import (
	"maps"
	"math/rand"
	"reflect"
	"slices"
	"testing"

	"psephos/api"
)

// model is a tree as the document says it: parents and slots by roots, and the first one; all else is worked out anew.
type model struct {
	first  uint64
	blocks map[uint64]node
}

func (m *model) add(n node) api.Errno {
	_, there := m.blocks[n.root]
	parent, stands := m.blocks[n.parent]
	switch {
	case there:
		return api.ErrTwice
	case !stands:
		return api.ErrParent
	case n.slot <= parent.slot:
		return api.ErrSlot
	case len(m.blocks) == 1024:
		return api.ErrFull
	}
	m.blocks[n.root] = n
	return 0
}

// stood is a block, its parent, that one's, and so on to the first one; none of one that is not there.
func (m *model) stood(root uint64) []uint64 {
	if _, ok := m.blocks[root]; !ok {
		return nil
	}
	path := []uint64{root}
	for root != m.first {
		root = m.blocks[root].parent
		path = append(path, root)
	}
	return path
}

func (m *model) at(root uint64, slot int) uint64 {
	path := m.stood(root)
	for _, r := range path {
		if m.blocks[r].slot <= slot {
			return r
		}
	}
	if len(path) == 0 {
		return 0
	}
	return m.first
}

func (m *model) roots() []uint64 { return slices.Sorted(maps.Keys(m.blocks)) }

func (m *model) kids(root uint64) []uint64 {
	var kids []uint64
	for _, r := range m.roots() {
		if r != m.first && m.blocks[r].parent == root {
			kids = append(kids, r)
		}
	}
	return kids
}

func (m *model) cut(root uint64) []uint64 {
	if _, ok := m.blocks[root]; !ok {
		return nil
	}
	var gone []uint64
	for _, r := range m.roots() {
		if !slices.Contains(m.stood(r), root) {
			gone = append(gone, r)
		}
	}
	for _, r := range gone {
		delete(m.blocks, r)
	}
	m.first = root
	return gone
}

func (m *model) look() view {
	v := view{first: m.first, count: len(m.blocks), roots: m.roots(), blocks: map[uint64]seen{}}
	for _, r := range v.roots {
		path := m.stood(r)
		parent := r
		if len(path) > 1 {
			parent = path[1]
		}
		v.blocks[r] = seen{parent, m.blocks[r].slot, len(path) - 1, m.kids(r)}
	}
	return v
}

// P9.1 to P9.3, by many calls in a row, from few roots and slots, so that each of the errors comes often. The seeds are fixed.

func TestManyCalls(t *testing.T) {
	for seed := range int64(60) {
		r := rand.New(rand.NewSource(seed))
		span := uint64(4 + r.Intn(30))
		first := node{root: r.Uint64() % span, slot: r.Intn(9) - 4}
		x := Of(first.root, first.slot)
		m := &model{first.root, map[uint64]node{first.root: first}}
		for range 120 {
			if r.Intn(20) == 0 {
				root := r.Uint64() % span
				checkList(t, "Cut", x.Cut(root), m.cut(root)...)
			} else {
				n := node{r.Uint64() % span, r.Uint64() % span, r.Intn(40) - 4}
				err := x.Add(n.root, n.parent, n.slot)
				if want := m.add(n); api.Number(err) != want || (err == nil) != (want == 0) {
					t.Fatalf("seed %d: Add(%d, %d, %d): %v, want %v", seed, n.root, n.parent, n.slot, err, want)
				}
			}
			checkModel(t, x, m, span)
			if t.Failed() {
				t.Fatalf("seed %d", seed)
			}
		}
	}
}

func checkModel(t *testing.T, x *Tree, m *model, span uint64) {
	t.Helper()
	if is, want := look(t, x), m.look(); !reflect.DeepEqual(is, want) {
		t.Errorf("it shows %v, want %v", is, want)
	}
	for root := range span {
		path := m.stood(root)
		if path == nil {
			checkGone(t, x, root)
		}
		for on := range span {
			checkBelow(t, x, root, on, slices.Contains(path, on))
		}
		for slot := -6; slot < 42; slot += 3 {
			if got, want := x.At(root, slot), m.at(root, slot); got != want {
				t.Errorf("At(%d, %d): %d, want %d", root, slot, got, want)
			}
		}
	}
}
