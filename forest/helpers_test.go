package forest_test

import (
	"fmt"
	"slices"
	"strings"
	"testing"

	"forest/api"
	"forest/forest"
)

const (
	none  = api.None
	least = -1 << 63
	great = 1<<63 - 1
)

// open makes a graph that must be.
func open(t *testing.T, vertices, most int) *forest.Graph {
	t.Helper()
	g, e := forest.New(vertices, most)
	if g == nil || e != api.OK {
		t.Fatalf("P3: New(%d, %d) = %v, %d", vertices, most, g, e)
	}
	return g
}

// insert puts in an edge that must come, with this change of the forest.
func insert(t *testing.T, g *forest.Graph, id, u, v, w, added, removed int) {
	t.Helper()
	want := api.Change{Added: added, Removed: removed}
	if c, e := g.Insert(id, u, v, w); c != want || e != api.OK {
		t.Fatalf("P4: Insert(%d, %d, %d, %d) = %v, %d, want %v, OK", id, u, v, w, c, e, want)
	}
}

// refused tries an edge that must be refused.
func refused(t *testing.T, g *forest.Graph, id, u, v, w int, want api.Errno) {
	t.Helper()
	was := told(g)
	if c, e := g.Insert(id, u, v, w); c != (api.Change{}) || e != want {
		t.Errorf("P4: Insert(%d, %d, %d, %d) = %v, %d, want zeros, %d", id, u, v, w, c, e, want)
	}
	if now := told(g); now != was {
		t.Errorf("P1: a refused Insert(%d, %d, %d, %d) changed\n%s\nto\n%s", id, u, v, w, was, now)
	}
}

// remove takes out an edge that must go, with this change of the forest.
func remove(t *testing.T, g *forest.Graph, id, added, removed int) {
	t.Helper()
	want := api.Change{Added: added, Removed: removed}
	if c, e := g.Delete(id); c != want || e != api.OK {
		t.Fatalf("P7: Delete(%d) = %v, %d, want %v, OK", id, c, e, want)
	}
}

// kept tries to take out an edge where that must be refused.
func kept(t *testing.T, g *forest.Graph, id int, want api.Errno) {
	t.Helper()
	was := told(g)
	if c, e := g.Delete(id); c != (api.Change{}) || e != want {
		t.Errorf("P7: Delete(%d) = %v, %d, want zeros, %d", id, c, e, want)
	}
	if now := told(g); now != was {
		t.Errorf("P1: a refused Delete(%d) changed\n%s\nto\n%s", id, was, now)
	}
}

// undo takes back a change that must be there, with this change of the forest.
func undo(t *testing.T, g *forest.Graph, added, removed int) {
	t.Helper()
	want := api.Change{Added: added, Removed: removed}
	if c, e := g.Undo(); c != want || e != api.OK {
		t.Fatalf("P8: Undo() = %v, %d, want %v, OK", c, e, want)
	}
}

// nothing demands that there is nothing to be taken back.
func nothing(t *testing.T, g *forest.Graph) {
	t.Helper()
	was := told(g)
	if c, e := g.Undo(); c != (api.Change{}) || e != api.ErrNothing {
		t.Errorf("P8: Undo() = %v, %d, want zeros, ErrNothing", c, e)
	}
	if now := told(g); now != was {
		t.Errorf("P1: a refused Undo() changed\n%s\nto\n%s", was, now)
	}
}

// forestIs demands these edges of the forest.
func forestIs(t *testing.T, g *forest.Graph, want ...int) {
	t.Helper()
	if ids := g.Forest(); !slices.Equal(ids, want) {
		t.Errorf("P6: Forest() = %v, want %v", ids, want)
	}
}

// told is all that the calls of P5, P6 and P9 to P12 tell of a graph, at all numbers of
// edges and vertices and some beside, and at some weights.
func told(g *forest.Graph) string {
	var s strings.Builder
	hi, lo := g.Weight()
	fmt.Fprintln(&s, g.Text(), g.Live(), g.Forest(), g.Components(), hi, lo)
	for id := -1; id <= api.MaxId; id++ {
		x, e := g.Edge(id)
		in, f := g.InForest(id)
		other, h := g.Other(id)
		fmt.Fprintln(&s, id, x, e, in, f, other, h)
	}
	for u := -1; u <= api.MaxVertices; u++ {
		for v := -1; v <= api.MaxVertices; v++ {
			joined, e := g.Connected(u, v)
			top, f := g.Heaviest(u, v)
			fmt.Fprintln(&s, u, v, joined, e, top, f)
		}
	}
	for _, w := range []int{least, -8, -1, 0, 4, 5, great} {
		fmt.Fprintln(&s, w, g.Groups(w))
		for u := -1; u <= api.MaxVertices; u++ {
			n, e := g.Reach(u, w)
			fmt.Fprintln(&s, u, w, n, e)
		}
	}
	return s.String()
}

// heaviest demands this edge, or this error, of Heaviest, both ways.
func heaviest(t *testing.T, g *forest.Graph, u, v, want int, refusal api.Errno) {
	t.Helper()
	if id, e := g.Heaviest(u, v); id != want || e != refusal {
		t.Errorf("P9: Heaviest(%d, %d) = %d, %d, want %d, %d", u, v, id, e, want, refusal)
	}
	if id, e := g.Heaviest(v, u); id != want || e != refusal {
		t.Errorf("P9: Heaviest(%d, %d) = %d, %d, want %d, %d", v, u, id, e, want, refusal)
	}
}

// other demands this edge, or this error, of Other.
func other(t *testing.T, g *forest.Graph, id, want int, refusal api.Errno) {
	t.Helper()
	if x, e := g.Other(id); x != want || e != refusal {
		t.Errorf("P10: Other(%d) = %d, %d, want %d, %d", id, x, e, want, refusal)
	}
}

// reach demands this count, or this error, of Reach.
func reach(t *testing.T, g *forest.Graph, u, w, want int, refusal api.Errno) {
	t.Helper()
	if n, e := g.Reach(u, w); n != want || e != refusal {
		t.Errorf("P11: Reach(%d, %d) = %d, %d, want %d, %d", u, w, n, e, want, refusal)
	}
}

// groups demands this count of Groups.
func groups(t *testing.T, g *forest.Graph, w, want int) {
	t.Helper()
	if n := g.Groups(w); n != want {
		t.Errorf("P11: Groups(%d) = %d, want %d", w, n, want)
	}
}

// textIs demands this text of a graph.
func textIs(t *testing.T, g *forest.Graph, want string) {
	t.Helper()
	if s := g.Text(); s != want {
		t.Fatalf("P12: Text() = %q, want %q", s, want)
	}
}

// load reads a text that must be a graph's.
func load(t *testing.T, text string) *forest.Graph {
	t.Helper()
	g, e := forest.Load(text)
	if g == nil || e != api.OK {
		t.Fatalf("P13: Load(%.90q) = %v, %d, want a graph", text, g, e)
	}
	textIs(t, g, text)
	return g
}

// unreadable tries a text that is no graph's.
func unreadable(t *testing.T, text string) {
	t.Helper()
	if g, e := forest.Load(text); g != nil || e != api.ErrText {
		t.Errorf("P13: Load(%.90q) = %v, %d, want nil, ErrText", text, g, e)
	}
}

// example is the graph of the document's examples, with five edges of five.
func example(t *testing.T) *forest.Graph {
	t.Helper()
	g := open(t, 4, 5)
	insert(t, g, 7, 0, 1, 5, 7, none)
	forestIs(t, g, 7)
	insert(t, g, 3, 1, 2, 5, 3, none)
	forestIs(t, g, 3, 7)
	insert(t, g, 9, 2, 0, 5, none, none)
	forestIs(t, g, 3, 7)
	insert(t, g, 1, 0, 2, 5, 1, 7)
	forestIs(t, g, 1, 3)
	insert(t, g, 0, 3, 3, -8, none, none)
	forestIs(t, g, 1, 3)
	return g
}
