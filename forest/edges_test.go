package forest_test

import (
	"math/big"
	"math/rand"
	"slices"
	"testing"

	"forest/api"
	"forest/forest"
)

func TestP4Refusals(t *testing.T) {
	g := open(t, 4, 5)
	insert(t, g, 0, 0, 1, 5, 0, none)
	insert(t, g, 99, 2, 3, 5, 99, none)
	for _, id := range []int{-1, 100, 101, least, great} {
		refused(t, g, id, 0, 1, 5, api.ErrId)
	}
	for _, v := range []int{-1, 4, 5, 29, 30, least, great} {
		refused(t, g, 1, v, 0, 5, api.ErrVertex)
		refused(t, g, 1, 0, v, 5, api.ErrVertex)
		refused(t, g, 1, v, v, 5, api.ErrVertex)
	}
	for _, id := range []int{0, 99} {
		refused(t, g, id, 0, 1, 5, api.ErrLive)
		refused(t, g, id, 1, 3, least, api.ErrLive)
	}
}

func TestP4SameWeightSmallerNumberIsLighter(t *testing.T) {
	g := open(t, 2, 60)
	insert(t, g, 50, 0, 1, great, 50, none)
	insert(t, g, 51, 0, 1, great, none, none)
	insert(t, g, 49, 1, 0, great, 49, 50)
	insert(t, g, 99, 0, 1, least, 99, 49)
	insert(t, g, 0, 0, 1, great, none, none)
	insert(t, g, 98, 1, 0, least, 98, 99)
	forestIs(t, g, 98)
}

func TestP4Loops(t *testing.T) {
	g := open(t, 2, 60)
	insert(t, g, 5, 0, 0, least, none, none)
	insert(t, g, 6, 0, 1, great, 6, none)
	insert(t, g, 4, 1, 1, least, none, none)
	forestIs(t, g, 6)
}

func TestP4HeaviestOfTheRingLeaves(t *testing.T) {
	g := open(t, 6, 60)
	for v, w := range []int{3, 9, 2, 9, 1} {
		insert(t, g, 10+v, v, v+1, w, 10+v, none)
	}
	insert(t, g, 40, 0, 5, 10, none, none)
	insert(t, g, 41, 5, 0, 4, 41, 13)
	insert(t, g, 42, 0, 2, 4, 42, 11)
	insert(t, g, 43, 3, 4, 5, none, none)
	forestIs(t, g, 10, 12, 14, 41, 42)
}

func TestP4GreatestGraph(t *testing.T) {
	g := open(t, api.MaxVertices, api.MaxEdges)
	for v := range 29 {
		insert(t, g, v, v, v+1, great, v, none)
	}
	insert(t, g, 29, 29, 0, great, none, none)
	for v := range 29 {
		insert(t, g, 99-v, v+1, v, least, 99-v, v)
	}
	insert(t, g, 70, 0, 29, least, 70, 99)
	refused(t, g, 30, 0, 29, least, api.ErrFull)
	if g.Components() != 1 {
		t.Errorf("P6: %d parts, want 1", g.Components())
	}
}

func TestP5EdgeKeepsItsEndsInOrder(t *testing.T) {
	g := example(t)
	for id, want := range map[int]api.Edge{0: {U: 3, V: 3, W: -8}, 1: {U: 0, V: 2, W: 5}, 3: {U: 1, V: 2, W: 5}, 7: {U: 0, V: 1, W: 5}, 9: {U: 2, V: 0, W: 5}} {
		if x, e := g.Edge(id); x != want || e != api.OK {
			t.Errorf("P5: Edge(%d) = %v, %d, want %v", id, x, e, want)
		}
	}
	h := open(t, 30, 60)
	insert(t, h, 99, 29, 0, least, 99, none)
	insert(t, h, 0, 0, 29, great, none, none)
	for id, want := range map[int]api.Edge{99: {U: 29, V: 0, W: least}, 0: {U: 0, V: 29, W: great}} {
		if x, e := h.Edge(id); x != want || e != api.OK {
			t.Errorf("P5: Edge(%d) = %v, %d, want %v", id, x, e, want)
		}
	}
}

func TestP5P6EdgeRefusals(t *testing.T) {
	g := example(t)
	for id, want := range map[int]api.Errno{-1: api.ErrId, 100: api.ErrId, 101: api.ErrId, least: api.ErrId, great: api.ErrId, 2: api.ErrAbsent, 8: api.ErrAbsent, 99: api.ErrAbsent} {
		if x, e := g.Edge(id); x != (api.Edge{}) || e != want {
			t.Errorf("P5: Edge(%d) = %v, %d, want %d", id, x, e, want)
		}
		if in, e := g.InForest(id); in || e != want {
			t.Errorf("P6: InForest(%d) = %v, %d, want %d", id, in, e, want)
		}
	}
}

func TestP5RefusedEdgeIsAbsent(t *testing.T) {
	g := example(t)
	refused(t, g, 2, 2, 3, 1, api.ErrFull)
	refused(t, g, 4, 2, 4, 1, api.ErrVertex)
	for _, id := range []int{2, 4} {
		if x, e := g.Edge(id); x != (api.Edge{}) || e != api.ErrAbsent {
			t.Errorf("P5: Edge(%d) = %v, %d, want ErrAbsent", id, x, e)
		}
	}
}

func TestP5LiveRises(t *testing.T) {
	g := open(t, 1, 60)
	for _, id := range []int{99, 0, 50, 49, 51, 1, 98} {
		insert(t, g, id, 0, 0, 100-id, none, none)
	}
	if ids := g.Live(); !slices.Equal(ids, []int{0, 1, 49, 50, 51, 98, 99}) {
		t.Errorf("P5: Live() = %v", ids)
	}
}

func TestP6Example(t *testing.T) {
	g := example(t)
	for id, want := range map[int]bool{0: false, 1: true, 3: true, 7: false, 9: false} {
		if in, e := g.InForest(id); in != want || e != api.OK {
			t.Errorf("P6: InForest(%d) = %v, %d, want %v", id, in, e, want)
		}
	}
	for u := range 4 {
		for v := range 4 {
			want := u == v || u != 3 && v != 3
			if joined, e := g.Connected(u, v); joined != want || e != api.OK {
				t.Errorf("P6: Connected(%d, %d) = %v, %d, want %v", u, v, joined, e, want)
			}
		}
	}
	hi, lo := g.Weight()
	if hi != 0 || lo != 10 || g.Components() != 2 {
		t.Errorf("P6: weighs %d, %d, %d parts, want 0, 10, 2 parts", hi, lo, g.Components())
	}
}

func TestP6ConnectedRefusals(t *testing.T) {
	g := example(t)
	for _, v := range []int{-1, 4, 5, 30, least, great} {
		for _, c := range [][2]int{{v, 0}, {0, v}, {v, v}} {
			if joined, e := g.Connected(c[0], c[1]); joined || e != api.ErrVertex {
				t.Errorf("P6: Connected(%d, %d) = %v, %d, want ErrVertex", c[0], c[1], joined, e)
			}
		}
	}
}

func TestP6Weight(t *testing.T) {
	for _, c := range []struct {
		weights []int
		hi, lo  int
	}{
		{nil, 0, 0},
		{[]int{-1}, -1, 1<<32 - 1},
		{[]int{-1, -2}, -1, 4294967293},
		{[]int{1<<32 - 1}, 0, 1<<32 - 1},
		{[]int{1 << 32}, 1, 0},
		{[]int{1<<32 - 1, 1}, 1, 0},
		{[]int{-1 << 32}, -1, 0},
		{[]int{-1<<32 - 1}, -2, 1<<32 - 1},
		{[]int{5, -5}, 0, 0},
		{[]int{great, least}, -1, 1<<32 - 1},
		{slices.Repeat([]int{great}, 29), 29<<31 - 1, 1<<32 - 29},
		{slices.Repeat([]int{least}, 29), -29 << 31, 0},
		{slices.Repeat([]int{-1}, 29), -1, 1<<32 - 29},
	} {
		g := open(t, 30, 60)
		for i, w := range c.weights {
			insert(t, g, i, i, i+1, w, i, none)
		}
		insert(t, g, 99, 29, 29, -12345, none, none)
		if hi, lo := g.Weight(); hi != c.hi || lo != c.lo {
			t.Errorf("P6: the weights %v: %d, %d, want %d, %d", c.weights, hi, lo, c.hi, c.lo)
		}
	}
}

// compare demands of a graph what the model tells.
func compare(t *testing.T, g *forest.Graph, m *model) {
	t.Helper()
	if ids := g.Live(); !slices.Equal(ids, m.live()) {
		t.Fatalf("P5: Live() = %v, want %v", ids, m.live())
	}
	trees := m.forest()
	if ids := g.Forest(); !slices.Equal(ids, trees) {
		t.Fatalf("P6: of %v: Forest() = %v, want %v", m.edges, ids, trees)
	}
	for id, want := range m.edges {
		if x, e := g.Edge(id); x != want || e != api.OK {
			t.Fatalf("P5: Edge(%d) = %v, %d, want %v", id, x, e, want)
		}
		if in, e := g.InForest(id); in != slices.Contains(trees, id) || e != api.OK {
			t.Fatalf("P6: of %v: InForest(%d) = %v, %d", m.edges, id, in, e)
		}
	}
	if parts := g.Components(); parts != m.components() {
		t.Fatalf("P6: of %v: Components() = %d, want %d", m.edges, parts, m.components())
	}
	for u := range m.vertices {
		for v := range m.vertices {
			if joined, e := g.Connected(u, v); joined != m.connected(u, v) || e != api.OK {
				t.Fatalf("P6: of %v: Connected(%d, %d) = %v, %d", m.edges, u, v, joined, e)
			}
		}
	}
	hi, lo := g.Weight()
	sum := new(big.Int).Lsh(big.NewInt(int64(hi)), 32)
	sum.Add(sum, big.NewInt(int64(lo)))
	if lo < 0 || lo >= 1<<32 || sum.Cmp(m.weight()) != 0 {
		t.Fatalf("P6: of %v: Weight() = %d, %d, want the sum %v", m.edges, hi, lo, m.weight())
	}
	compareHanging(t, g, m, trees)
	textIs(t, g, m.text())
}

// drawWeight draws often the same few weights, and now and then any.
func drawWeight(r *rand.Rand) int {
	switch r.Intn(4) {
	case 0:
		return int(r.Uint64())
	case 1:
		return extremes[r.Intn(len(extremes))]
	}
	return r.Intn(5) - 2
}

func TestP4ToP12InsertsAgainstTheModel(t *testing.T) {
	r := rand.New(rand.NewSource(7))
	for round := range 120 {
		vertices := 1 + r.Intn(8)
		if round%20 == 0 {
			vertices = api.MaxVertices
		}
		most := 1 + r.Intn(api.MaxEdges)
		g, m := open(t, vertices, most), newModel(vertices, most)
		for _, id := range r.Perm(api.MaxId)[:min(most, 25)] {
			x := api.Edge{U: r.Intn(vertices), V: r.Intn(vertices), W: drawWeight(r)}
			was := m.forest()
			m.edges[id] = x
			want, single := difference(was, m.forest())
			if !single {
				t.Fatalf("the model changed by more than one edge at %v", x)
			}
			insert(t, g, id, x.U, x.V, x.W, want.Added, want.Removed)
		}
		compare(t, g, m)
	}
}

// The forest hangs on the edges, not on the order in which they came.
func TestP6OrderOfInsertsDoesNotMatter(t *testing.T) {
	r := rand.New(rand.NewSource(8))
	for range 50 {
		var edges [40]api.Edge
		for i := range edges {
			edges[i] = api.Edge{U: r.Intn(10), V: r.Intn(10), W: drawWeight(r)}
		}
		g, h := open(t, 10, 60), open(t, 10, 60)
		for i, x := range edges {
			g.Insert(i, x.U, x.V, x.W)
		}
		for _, i := range r.Perm(len(edges)) {
			h.Insert(i, edges[i].U, edges[i].V, edges[i].W)
		}
		if told(g) != told(h) {
			t.Fatalf("P6: of %v: by the order of the inserts\n%s\nor\n%s", edges, told(g), told(h))
		}
	}
}

func TestWordsErrorsAndLimits(t *testing.T) {
	errors := []api.Errno{api.OK, api.ErrArg, api.ErrId, api.ErrVertex, api.ErrLive, api.ErrFull, api.ErrAbsent, api.ErrApart, api.ErrNothing, api.ErrText}
	for i, e := range errors {
		if int(e) != i {
			t.Errorf("error %d has the number %d", i, e)
		}
	}
	limits := []int{api.MaxVertices, api.MaxEdges, api.MaxId, api.MaxUndo, api.None}
	if !slices.Equal(limits, []int{30, 60, 100, 20, -1}) {
		t.Errorf("the limits are %v", limits)
	}
}
