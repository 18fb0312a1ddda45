package forest_test

import (
	"slices"
	"testing"

	"forest/api"
	"forest/forest"
)

// extremes are numbers that tempt an index or a sum.
var extremes = []int{least, least + 1, -1 << 32, -101, -2, -1, 0, 1, 29, 30, 31, 59, 60, 61, 99, 100, 101, 1 << 32, great - 1, great}

func TestP1EveryCallEnds(t *testing.T) {
	for _, a := range extremes {
		for _, b := range extremes {
			g, e := forest.New(a, b)
			if (g == nil) != (e != api.OK) {
				t.Fatalf("P1: New(%d, %d) = %v, %d", a, b, g, e)
			}
		}
	}
	g := open(t, 30, 60)
	for _, id := range extremes {
		for _, u := range extremes {
			for _, v := range extremes {
				if c, e := g.Insert(id, u, v, id); e != api.OK && c != (api.Change{}) {
					t.Fatalf("P1: Insert(%d, %d, %d) = %v, %d", id, u, v, c, e)
				}
			}
			if joined, e := g.Connected(id, u); e != api.OK && joined {
				t.Fatalf("P1: Connected(%d, %d) = %v, %d", id, u, joined, e)
			}
			if top, e := g.Heaviest(id, u); e != api.OK && top != 0 {
				t.Fatalf("P1: Heaviest(%d, %d) = %d, %d", id, u, top, e)
			}
			if n, e := g.Reach(id, u); e != api.OK && n != 0 {
				t.Fatalf("P1: Reach(%d, %d) = %d, %d", id, u, n, e)
			}
		}
		if n := g.Groups(id); n < 1 || n > 30 {
			t.Fatalf("P1: Groups(%d) = %d", id, n)
		}
		if x, e := g.Other(id); e != api.OK && x != 0 {
			t.Fatalf("P1: Other(%d) = %d, %d", id, x, e)
		}
		if x, e := g.Edge(id); e != api.OK && x != (api.Edge{}) {
			t.Fatalf("P1: Edge(%d) = %v, %d", id, x, e)
		}
		if in, e := g.InForest(id); e != api.OK && in {
			t.Fatalf("P1: InForest(%d) = %v, %d", id, in, e)
		}
	}
	if ids := g.Live(); !slices.Equal(ids, []int{0, 1, 29, 30, 31, 59, 60, 61, 99}) {
		t.Errorf("P1: of the extremes came %v", ids)
	}
	for _, id := range extremes {
		if c, e := g.Delete(id); e != api.OK && c != (api.Change{}) {
			t.Fatalf("P1: Delete(%d) = %v, %d", id, c, e)
		}
	}
	if ids := g.Live(); len(ids) != 0 {
		t.Errorf("P1: of the extremes stayed %v", ids)
	}
	for range 3 * api.MaxUndo {
		if c, e := g.Undo(); e != api.OK && c != (api.Change{}) {
			t.Fatalf("P1: Undo() = %v, %d", c, e)
		}
	}
}

func TestP1FirstErrorCounts(t *testing.T) {
	g := example(t)
	for _, c := range []struct {
		id, u, v int
		want     api.Errno
	}{
		{-1, 4, -1, api.ErrId},
		{100, 0, 4, api.ErrId},
		{100, 0, 0, api.ErrId},
		{7, 4, 0, api.ErrVertex},
		{7, 0, 4, api.ErrVertex},
		{2, 0, 4, api.ErrVertex},
		{2, -1, 0, api.ErrVertex},
		{7, 0, 1, api.ErrLive},
		{0, 3, 3, api.ErrLive},
		{2, 2, 3, api.ErrFull},
	} {
		refused(t, g, c.id, c.u, c.v, 1, c.want)
	}
}

func TestP2ListsAreFresh(t *testing.T) {
	g := example(t)
	was := told(g)
	for _, list := range []func() []int{g.Live, g.Forest} {
		first, second := list(), list()
		want := slices.Clone(second)
		full := first[:cap(first)]
		for i := range full {
			full[i] = 77
		}
		if !slices.Equal(second, want) {
			t.Errorf("P2: writing into one list made another %v, not %v", second, want)
		}
		third := list()
		full = second[:cap(second)]
		for i := range full {
			full[i] = 88
		}
		if !slices.Equal(third, want) {
			t.Errorf("P2: writing into one list made a later one %v, not %v", third, want)
		}
	}
	if now := told(g); now != was {
		t.Errorf("P2: writing into lists changed\n%s\nto\n%s", was, now)
	}
}

func TestP2SpareRoomIsFresh(t *testing.T) {
	g := example(t)
	for _, list := range []func() []int{g.Live, g.Forest} {
		a, b := list(), list()
		spareA, spareB := a[len(a):cap(a)], b[len(b):cap(b)]
		for i := range spareA {
			spareA[i] = 5
		}
		for i := range spareB {
			spareB[i] = 6
		}
		for _, x := range spareA {
			if x != 5 {
				t.Errorf("P2: two lists share their spare room")
			}
		}
	}
}

func TestP2GraphsStandAlone(t *testing.T) {
	g := example(t)
	was := told(g)
	h := open(t, 4, 5)
	if h.Components() != 4 || len(h.Live()) != 0 {
		t.Errorf("P2: a new graph beside another has %v", h.Live())
	}
	insert(t, h, 50, 0, 3, -9, 50, none)
	insert(t, h, 7, 0, 3, -10, 7, 50)
	remove(t, h, 50, none, none)
	if now := told(g); now != was {
		t.Errorf("P2: another graph's edges changed\n%s\nto\n%s", was, now)
	}
	undo(t, g, none, none)
	if _, e := g.Edge(0); e != api.ErrAbsent {
		t.Errorf("P2: beside another graph's changes Undo() left edge 0: %d", e)
	}
	undo(t, h, none, none)
	undo(t, h, 50, 7)
	undo(t, h, none, 50)
	nothing(t, h)
}

// Graphs read from one text share nothing, and a text refused leaves nothing behind.
func TestP2ReadGraphsStandAlone(t *testing.T) {
	g := example(t)
	was, text := told(g), g.Text()
	h, k := load(t, text), load(t, text)
	remove(t, h, 1, 7, 1)
	remove(t, h, 3, 9, 3)
	unreadable(t, text+"9 0 0 0\n")
	unreadable(t, "4 5\n50 0 1 -7\n51 0 4 0\n")
	if told(g) != was || told(k) != was || told(load(t, text)) != was {
		t.Errorf("P2: beside a graph that was read, %q became %q, %q", text, g.Text(), k.Text())
	}
	nothing(t, k)
	undo(t, g, none, none)
	undo(t, h, 3, 9)
	undo(t, h, 1, 7)
	nothing(t, h)
	if told(h) != was || told(k) != was {
		t.Errorf("P2: beside others %q became %q, %q", text, h.Text(), k.Text())
	}
}

func TestP2AskingChangesNothing(t *testing.T) {
	g := example(t)
	was := told(g)
	for range 3 {
		if now := told(g); now != was {
			t.Fatalf("P2: asking changed\n%s\nto\n%s", was, now)
		}
	}
	undo(t, g, none, none)
	undo(t, g, 7, 1)
	forestIs(t, g, 3, 7)
}

func TestP3Arguments(t *testing.T) {
	for _, vertices := range append(extremes, 15) {
		for _, most := range append(extremes, 15) {
			g, e := forest.New(vertices, most)
			may := vertices >= 1 && vertices <= 30 && most >= 1 && most <= 60
			if may && (g == nil || e != api.OK) {
				t.Errorf("P3: New(%d, %d) = %v, %d, want a graph", vertices, most, g, e)
			}
			if !may && (g != nil || e != api.ErrArg) {
				t.Errorf("P3: New(%d, %d) = %v, %d, want nil, ErrArg", vertices, most, g, e)
			}
		}
	}
}

func TestP3EmptyGraph(t *testing.T) {
	for vertices := 1; vertices <= api.MaxVertices; vertices++ {
		g := open(t, vertices, 1)
		hi, lo := g.Weight()
		if len(g.Live()) != 0 || len(g.Forest()) != 0 || g.Components() != vertices || hi != 0 || lo != 0 {
			t.Errorf("P3: a new graph of %d vertices tells\n%s", vertices, told(g))
		}
		if in, e := g.Connected(vertices-1, vertices-1); !in || e != api.OK {
			t.Errorf("P3: the last of %d vertices: %v, %d", vertices, in, e)
		}
		if in, e := g.Connected(0, vertices); in || e != api.ErrVertex {
			t.Errorf("P3: one past %d vertices: %v, %d", vertices, in, e)
		}
	}
}

func TestP3AsManyEdgesAsMostSays(t *testing.T) {
	for most := 1; most <= api.MaxEdges; most++ {
		g := open(t, 1, most)
		for i := range most {
			insert(t, g, 99-i, 0, 0, i, none, none)
		}
		refused(t, g, 0, 0, 0, 0, api.ErrFull)
		refused(t, g, 99, 0, 0, 0, api.ErrLive)
		if len(g.Live()) != most {
			t.Errorf("P3: of most %d came %d edges", most, len(g.Live()))
		}
	}
}
