package forest_test

import (
	"slices"
	"testing"

	"forest/api"
	"forest/forest"
)

// compareHanging demands of a graph what the model tells of P9 to P11.
func compareHanging(t *testing.T, g *forest.Graph, m *model, trees []int) {
	t.Helper()
	for u := range m.vertices {
		for v := range m.vertices {
			if !m.connected(u, v) {
				heaviest(t, g, u, v, 0, api.ErrApart)
			} else {
				heaviest(t, g, u, v, m.heaviest(u, v, trees), api.OK)
			}
		}
	}
	weights := []int{least, -1, 0, great}
	for i, id := range m.live() {
		other(t, g, id, m.other(id, trees), api.OK)
		if i%4 == 0 {
			weights = append(weights, m.edges[id].W, m.edges[id].W-1)
		}
	}
	for _, w := range weights {
		groups(t, g, w, m.groups(w))
		for u := range m.vertices {
			reach(t, g, u, w, m.reach(u, w), api.OK)
		}
	}
	if t.Failed() {
		t.Fatalf("P9 to P11: of %v, with the forest %v", m.edges, trees)
	}
}

func TestP9Example(t *testing.T) {
	g := example(t)
	heaviest(t, g, 0, 1, 3, api.OK)
	heaviest(t, g, 0, 2, 1, api.OK)
	heaviest(t, g, 1, 2, 3, api.OK)
	for u := range 3 {
		heaviest(t, g, u, 3, 0, api.ErrApart)
	}
	for u := range 4 {
		heaviest(t, g, u, u, none, api.OK)
	}
}

// No vertex is told ahead of apart, and of the same twice.
func TestP9Refusals(t *testing.T) {
	g := example(t)
	for _, v := range []int{-1, 4, 5, 29, 30, 31, least, great} {
		for u := range 4 {
			heaviest(t, g, u, v, 0, api.ErrVertex)
		}
		heaviest(t, g, v, v, 0, api.ErrVertex)
		heaviest(t, g, v, -1, 0, api.ErrVertex)
	}
}

func TestP9GraphsWithoutWays(t *testing.T) {
	for _, vertices := range []int{1, 2, 30} {
		g := open(t, vertices, 60)
		last := vertices - 1
		insert(t, g, 0, 0, 0, least, none, none)
		insert(t, g, 99, last, last, great, none, none)
		heaviest(t, g, 0, 0, none, api.OK)
		heaviest(t, g, last, last, none, api.OK)
		if last > 0 {
			heaviest(t, g, 0, last, 0, api.ErrApart)
		}
	}
}

// The same vertex twice needs no way, though it is on a ring.
func TestP9SameVertexOnARing(t *testing.T) {
	g := open(t, 3, 60)
	insert(t, g, 1, 0, 1, 1, 1, none)
	insert(t, g, 2, 1, 2, 1, 2, none)
	insert(t, g, 3, 2, 0, 1, none, none)
	insert(t, g, 0, 1, 1, 0, none, none)
	for v := range 3 {
		heaviest(t, g, v, v, none, api.OK)
	}
}

// The way keeps to the forest: a heavier edge with the same ends, or around, is not on it.
func TestP9OnlyForestEdgesAreOnTheWay(t *testing.T) {
	g := open(t, 4, 60)
	insert(t, g, 10, 0, 1, 3, 10, none)
	insert(t, g, 11, 1, 0, 3, none, none)
	insert(t, g, 12, 0, 1, 8, none, none)
	insert(t, g, 20, 1, 2, 2, 20, none)
	insert(t, g, 21, 0, 2, 9, none, none)
	insert(t, g, 30, 2, 2, 7, none, none)
	heaviest(t, g, 0, 1, 10, api.OK)
	heaviest(t, g, 0, 2, 10, api.OK)
	heaviest(t, g, 1, 2, 20, api.OK)
	insert(t, g, 9, 1, 0, 3, 9, 10)
	heaviest(t, g, 0, 2, 9, api.OK)
}

// A heavy edge of the forest that leads elsewhere is not on the way.
func TestP9EdgesBesideTheWay(t *testing.T) {
	g := open(t, 6, 60)
	insert(t, g, 1, 0, 1, 2, 1, none)
	insert(t, g, 2, 1, 2, 1, 2, none)
	insert(t, g, 3, 1, 3, 50, 3, none)
	insert(t, g, 4, 4, 5, -9, 4, none)
	heaviest(t, g, 0, 2, 1, api.OK)
	heaviest(t, g, 0, 3, 3, api.OK)
	heaviest(t, g, 4, 5, 4, api.OK)
	heaviest(t, g, 3, 5, 0, api.ErrApart)
}

func TestP9SameWeightGreaterNumberIsHeavier(t *testing.T) {
	for _, w := range []int{least, -1, 0, great} {
		g := open(t, 6, 60)
		for v, id := range []int{40, 99, 0, 98, 41} {
			insert(t, g, id, v, v+1, w, id, none)
		}
		heaviest(t, g, 0, 5, 99, api.OK)
		heaviest(t, g, 2, 5, 98, api.OK)
		heaviest(t, g, 4, 5, 41, api.OK)
		heaviest(t, g, 2, 3, 0, api.OK)
	}
}

func TestP9LeastAndGreatestWeights(t *testing.T) {
	g := open(t, 5, 60)
	insert(t, g, 90, 0, 1, least, 90, none)
	insert(t, g, 50, 1, 2, great, 50, none)
	insert(t, g, 91, 2, 3, great-1, 91, none)
	insert(t, g, 92, 3, 4, least+1, 92, none)
	heaviest(t, g, 0, 1, 90, api.OK)
	heaviest(t, g, 0, 2, 50, api.OK)
	heaviest(t, g, 0, 4, 50, api.OK)
	heaviest(t, g, 2, 4, 91, api.OK)
	heaviest(t, g, 3, 4, 92, api.OK)
}

func TestP9LongestWay(t *testing.T) {
	g := open(t, 30, 60)
	for v := range 29 {
		insert(t, g, 60-v, v, v+1, 100-v, 60-v, none)
	}
	for u := range 30 {
		for v := u + 1; v < 30; v++ {
			heaviest(t, g, u, v, 60-u, api.OK)
		}
	}
}

func TestP9FollowsTheChanges(t *testing.T) {
	g := example(t)
	remove(t, g, 1, 7, 1)
	heaviest(t, g, 0, 1, 7, api.OK)
	heaviest(t, g, 0, 2, 7, api.OK)
	remove(t, g, 7, 9, 7)
	heaviest(t, g, 0, 1, 9, api.OK)
	remove(t, g, 9, none, 9)
	heaviest(t, g, 0, 1, 0, api.ErrApart)
	undo(t, g, 9, none)
	heaviest(t, g, 0, 1, 9, api.OK)
	undo(t, g, 7, 9)
	undo(t, g, 1, 7)
	heaviest(t, g, 0, 1, 3, api.OK)
}

func TestP10Example(t *testing.T) {
	g := example(t)
	other(t, g, 1, 7, api.OK)
	other(t, g, 3, 7, api.OK)
	other(t, g, 7, 3, api.OK)
	other(t, g, 9, 1, api.OK)
	other(t, g, 0, none, api.OK)
	forestIs(t, g, 1, 3)
}

func TestP10Refusals(t *testing.T) {
	g := example(t)
	for _, id := range []int{-1, 100, 101, least, great} {
		other(t, g, id, 0, api.ErrId)
	}
	for _, id := range []int{2, 8, 98, 99} {
		other(t, g, id, 0, api.ErrAbsent)
	}
	g.Delete(9)
	other(t, g, 9, 0, api.ErrAbsent)
	g.Undo()
	other(t, g, 9, 1, api.OK)
	empty := open(t, 1, 1)
	other(t, empty, 0, 0, api.ErrAbsent)
	other(t, empty, 99, 0, api.ErrAbsent)
}

// Where nothing else joins what an edge joins, nothing would come for it.
func TestP10NothingWouldCome(t *testing.T) {
	g := open(t, 30, 60)
	for v := range 29 {
		insert(t, g, 99-v, v, v+1, v, 99-v, none)
		insert(t, g, v, v, v, least, none, none)
	}
	for v := range 29 {
		other(t, g, 99-v, none, api.OK)
	}
	insert(t, g, 50, 0, 28, great, none, none)
	other(t, g, 71, none, api.OK)
	for v := range 28 {
		other(t, g, 99-v, 50, api.OK)
	}
	other(t, g, 50, 72, api.OK)
}

// A loop's two ends are one vertex, so no way is needed, whatever else is there.
func TestP10Loops(t *testing.T) {
	g := open(t, 2, 60)
	insert(t, g, 5, 0, 0, great, none, none)
	insert(t, g, 6, 0, 0, least, none, none)
	other(t, g, 5, none, api.OK)
	other(t, g, 6, none, api.OK)
	insert(t, g, 1, 0, 1, 1, 1, none)
	insert(t, g, 2, 1, 0, 1, none, none)
	insert(t, g, 7, 1, 1, 1, none, none)
	other(t, g, 5, none, api.OK)
	other(t, g, 6, none, api.OK)
	other(t, g, 7, none, api.OK)
	other(t, g, 1, 2, api.OK)
	remove(t, g, 2, none, none)
	other(t, g, 1, none, api.OK)
}

// Of edges with the same ends the lightest is in the forest, and the next one would come for it.
func TestP10SameEnds(t *testing.T) {
	for _, w := range []int{least, -1, 0, great} {
		g := open(t, 2, 60)
		insert(t, g, 98, 0, 1, w, 98, none)
		insert(t, g, 0, 1, 0, w, 0, 98)
		insert(t, g, 99, 0, 1, w, none, none)
		insert(t, g, 50, 0, 1, w, none, none)
		other(t, g, 0, 50, api.OK)
		for _, id := range []int{50, 98, 99} {
			other(t, g, id, 0, api.OK)
		}
	}
}

func TestP10LeastAndGreatestWeights(t *testing.T) {
	g := open(t, 3, 60)
	insert(t, g, 50, 0, 1, least, 50, none)
	insert(t, g, 51, 1, 2, least+1, 51, none)
	insert(t, g, 10, 0, 2, great, none, none)
	insert(t, g, 11, 2, 0, great-1, none, none)
	insert(t, g, 9, 2, 1, great, none, none)
	other(t, g, 50, 11, api.OK)
	other(t, g, 51, 11, api.OK)
	other(t, g, 10, 51, api.OK)
	other(t, g, 11, 51, api.OK)
	other(t, g, 9, 51, api.OK)
	remove(t, g, 11, none, none)
	other(t, g, 50, 10, api.OK)
	other(t, g, 51, 9, api.OK)
}

// Other tells of an edge in the forest what Delete does, and of another what leaves as it becomes lighter than all.
func TestP10TellsWhatWouldHappen(t *testing.T) {
	g := open(t, 6, 60)
	for i, x := range [][3]int{{0, 1, 4}, {1, 2, 2}, {2, 3, 4}, {3, 4, 1}, {4, 0, 4}, {0, 2, 3}, {1, 3, 4}, {4, 4, 0}, {4, 5, 2}, {5, 4, 2}, {2, 4, 6}} {
		g.Insert(20-i, x[0], x[1], x[2])
	}
	for _, id := range g.Live() {
		x, _ := g.Edge(id)
		in, _ := g.InForest(id)
		would, e := g.Other(id)
		if e != api.OK {
			t.Fatalf("P10: Other(%d) = %d, %d", id, would, e)
		}
		if in {
			remove(t, g, id, would, id)
			undo(t, g, id, would)
			continue
		}
		remove(t, g, id, none, none)
		if x.U == x.V {
			insert(t, g, id, x.U, x.V, least, none, none)
		} else {
			insert(t, g, id, x.U, x.V, least, id, would)
		}
		g.Undo()
		g.Undo()
	}
}

// Asking what would come leaves the graph, and what can be taken back, as they are.
func TestP10ChangesNothing(t *testing.T) {
	g := ladder(t, 30)
	ids := g.Live()
	for range 3 {
		for _, id := range ids {
			want := 70
			if id == 70 {
				want = 71
			}
			other(t, g, id, want, api.OK)
		}
	}
	if now := g.Live(); !slices.Equal(now, ids) {
		t.Errorf("P2: Other made of the edges %v %v", ids, now)
	}
	for id := 70; id < 90; id++ {
		undo(t, g, id+1, id)
		other(t, g, id+1, id+2, api.OK)
	}
	nothing(t, g)
}

func TestP11Example(t *testing.T) {
	g := example(t)
	g.Undo()
	g.Undo()
	reach(t, g, 0, 4, 1, api.OK)
	reach(t, g, 0, 5, 3, api.OK)
	groups(t, g, 4, 4)
	groups(t, g, 5, 2)
}

func TestP11Refusals(t *testing.T) {
	g := example(t)
	for _, u := range []int{-1, 4, 5, 29, 30, 31, least, great} {
		for _, w := range []int{least, 0, 5, great} {
			reach(t, g, u, w, 0, api.ErrVertex)
		}
	}
}

// A vertex is counted itself; vertices that the graph does not have are not.
func TestP11WithoutEdges(t *testing.T) {
	for vertices := 1; vertices <= 30; vertices++ {
		g := open(t, vertices, 1)
		for _, w := range []int{least, -1, 0, great} {
			reach(t, g, 0, w, 1, api.OK)
			reach(t, g, vertices-1, w, 1, api.OK)
			reach(t, g, vertices, w, 0, api.ErrVertex)
			groups(t, g, w, vertices)
		}
	}
}

// An edge of just this weight counts, one of the next greater does not.
func TestP11WeightsAtTheBound(t *testing.T) {
	for _, w := range []int{least + 1, -1, 0, 1, 1 << 32, great - 1} {
		g := open(t, 4, 60)
		insert(t, g, 99, 0, 1, w-1, 99, none)
		insert(t, g, 98, 1, 2, w, 98, none)
		insert(t, g, 97, 2, 3, w+1, 97, none)
		for i, bound := range []int{w - 1, w, w + 1} {
			reach(t, g, 0, bound, i+2, api.OK)
			reach(t, g, 3, bound, []int{1, 1, 4}[i], api.OK)
			groups(t, g, bound, 3-i)
		}
	}
}

func TestP11LeastAndGreatestWeights(t *testing.T) {
	g := open(t, 4, 60)
	insert(t, g, 1, 0, 1, least, 1, none)
	insert(t, g, 2, 2, 1, great, 2, none)
	for w, want := range map[int]int{least: 3, least + 1: 3, 0: 3, great - 1: 3, great: 2} {
		groups(t, g, w, want)
		reach(t, g, 0, w, 5-want, api.OK)
		reach(t, g, 1, w, 5-want, api.OK)
		reach(t, g, 3, w, 1, api.OK)
	}
	reach(t, g, 2, great, 3, api.OK)
	reach(t, g, 2, great-1, 1, api.OK)
}

// Loops and further edges with the same ends join nothing more.
func TestP11LoopsAndSameEnds(t *testing.T) {
	g := open(t, 3, 60)
	insert(t, g, 1, 0, 0, -5, none, none)
	insert(t, g, 2, 0, 1, 4, 2, none)
	insert(t, g, 3, 1, 0, 2, 3, 2)
	insert(t, g, 4, 1, 0, 9, none, none)
	insert(t, g, 5, 2, 2, 0, none, none)
	for w, want := range map[int]int{-6: 1, -5: 1, 1: 1, 2: 2, 3: 2, 4: 2, 9: 2, great: 2} {
		reach(t, g, 0, w, want, api.OK)
		reach(t, g, 1, w, want, api.OK)
		reach(t, g, 2, w, 1, api.OK)
		groups(t, g, w, 4-want)
	}
}

func TestP11GreatestGraph(t *testing.T) {
	g := open(t, 30, 60)
	for v := range 29 {
		insert(t, g, 99-v, v+1, v, v, 99-v, none)
		insert(t, g, v, v, v+1, v+1, none, none)
	}
	for w := range 29 {
		reach(t, g, 0, w, w+2, api.OK)
		reach(t, g, w+1, w, w+2, api.OK)
		groups(t, g, w, 29-w)
	}
	groups(t, g, -1, 30)
	groups(t, g, great, 1)
	reach(t, g, 29, great, 30, api.OK)
	reach(t, g, 29, 27, 1, api.OK)
}

func TestP11FollowsTheChanges(t *testing.T) {
	g := example(t)
	reach(t, g, 1, 5, 3, api.OK)
	remove(t, g, 3, 7, 3)
	remove(t, g, 7, none, 7)
	reach(t, g, 1, 5, 1, api.OK)
	groups(t, g, 5, 3)
	undo(t, g, 7, none)
	reach(t, g, 1, 5, 3, api.OK)
	groups(t, g, 5, 2)
}
