package forest_test

import (
	"maps"
	"math/rand"
	"slices"
	"testing"

	"forest/api"
	"forest/forest"
)

func TestP7P8Example(t *testing.T) {
	g := example(t)
	remove(t, g, 1, 7, 1)
	forestIs(t, g, 3, 7)
	kept(t, g, 1, api.ErrAbsent)
	undo(t, g, 1, 7)
	forestIs(t, g, 1, 3)
	undo(t, g, none, none)
	forestIs(t, g, 1, 3)
	if ids := g.Live(); !slices.Equal(ids, []int{1, 3, 7, 9}) {
		t.Errorf("P8: the loop is taken back, but Live() = %v", ids)
	}
	undo(t, g, 7, 1)
	forestIs(t, g, 3, 7)
	undo(t, g, none, none)
	undo(t, g, none, 3)
	undo(t, g, none, 7)
	nothing(t, g)
	forestIs(t, g)
}

func TestP7Refusals(t *testing.T) {
	g := example(t)
	for _, id := range []int{-1, 100, 101, least, great} {
		kept(t, g, id, api.ErrId)
	}
	for _, id := range []int{2, 8, 98, 99} {
		kept(t, g, id, api.ErrAbsent)
	}
	empty := open(t, 1, 1)
	for _, id := range []int{0, 99} {
		kept(t, empty, id, api.ErrAbsent)
	}
}

func TestP7FirstAndLastNumber(t *testing.T) {
	g := open(t, 2, 2)
	insert(t, g, 0, 0, 1, 5, 0, none)
	insert(t, g, 99, 1, 0, 5, none, none)
	remove(t, g, 0, 99, 0)
	remove(t, g, 99, none, 99)
	kept(t, g, 0, api.ErrAbsent)
	kept(t, g, 99, api.ErrAbsent)
}

// Of the edges that could come for the one that goes, the lightest comes.
func TestP7LightestComes(t *testing.T) {
	g := open(t, 4, 60)
	insert(t, g, 1, 0, 1, 1, 1, none)
	insert(t, g, 2, 1, 2, 2, 2, none)
	insert(t, g, 3, 2, 3, 3, 3, none)
	insert(t, g, 20, 0, 3, great, none, none)
	insert(t, g, 19, 3, 1, great, none, none)
	insert(t, g, 18, 2, 2, least, none, none)
	insert(t, g, 17, 2, 3, 9, none, none)
	remove(t, g, 2, 19, 2)
	forestIs(t, g, 1, 3, 19)
	remove(t, g, 19, 20, 19)
	remove(t, g, 3, 17, 3)
	remove(t, g, 18, none, none)
	remove(t, g, 1, none, 1)
	forestIs(t, g, 17, 20)
	if g.Components() != 2 {
		t.Errorf("P7: %d parts, want 2", g.Components())
	}
	if joined, e := g.Connected(0, 1); joined || e != api.OK {
		t.Errorf("P7: Connected(0, 1) = %v, %d behind the edge", joined, e)
	}
}

func TestP7EdgeIsGone(t *testing.T) {
	g := example(t)
	remove(t, g, 9, none, none)
	if x, e := g.Edge(9); x != (api.Edge{}) || e != api.ErrAbsent {
		t.Errorf("P7: Edge(9) = %v, %d, want ErrAbsent", x, e)
	}
	if in, e := g.InForest(9); in || e != api.ErrAbsent {
		t.Errorf("P7: InForest(9) = %v, %d, want ErrAbsent", in, e)
	}
	if ids := g.Live(); !slices.Equal(ids, []int{0, 1, 3, 7}) {
		t.Errorf("P7: Live() = %v", ids)
	}
}

// What has gone makes room, and its number may come again, as another edge.
func TestP7NumberComesAgain(t *testing.T) {
	g := example(t)
	refused(t, g, 2, 2, 3, 1, api.ErrFull)
	remove(t, g, 7, none, none)
	insert(t, g, 7, 3, 2, -1, 7, none)
	if x, e := g.Edge(7); x != (api.Edge{U: 3, V: 2, W: -1}) || e != api.OK {
		t.Errorf("P5: Edge(7) = %v, %d", x, e)
	}
	refused(t, g, 2, 2, 3, 1, api.ErrFull)
	undo(t, g, none, 7)
	undo(t, g, none, none)
	if x, e := g.Edge(7); x != (api.Edge{U: 0, V: 1, W: 5}) || e != api.OK {
		t.Errorf("P8: Edge(7) = %v, %d, want it as it was", x, e)
	}
	refused(t, g, 2, 2, 3, 1, api.ErrFull)
}

func TestP8NothingInANewGraph(t *testing.T) {
	g := open(t, 3, 3)
	nothing(t, g)
	nothing(t, g)
	insert(t, g, 0, 0, 1, 1, 0, none)
	undo(t, g, none, 0)
	nothing(t, g)
	nothing(t, g)
	insert(t, g, 0, 0, 2, 1, 0, none)
	forestIs(t, g, 0)
}

// An edge that comes back has its ends in their order, and its weight.
func TestP8DeletedEdgeComesBackWhole(t *testing.T) {
	for _, x := range []api.Edge{{U: 29, V: 0, W: least}, {U: 0, V: 29, W: great}, {U: 5, V: 5, W: -1}} {
		g := open(t, 30, 1)
		g.Insert(99, x.U, x.V, x.W)
		was := told(g)
		g.Delete(99)
		g.Undo()
		if now := told(g); now != was {
			t.Errorf("P8: Undo of Delete made of %v\n%s", x, now)
		}
		if y, e := g.Edge(99); y != x || e != api.OK {
			t.Errorf("P8: Edge(99) = %v, %d, want %v", y, e, x)
		}
	}
}

// ladder makes a graph of two vertices by so many changes: each edge takes the place of the one ahead.
func ladder(t *testing.T, changes int) *forest.Graph {
	t.Helper()
	g := open(t, 2, 60)
	insert(t, g, 99, 0, 1, 7, 99, none)
	for i := 1; i < changes; i++ {
		insert(t, g, 99-i, 0, 1, 7, 99-i, 100-i)
	}
	return g
}

func TestP8OnlyTheLastChanges(t *testing.T) {
	for _, changes := range []int{1, 2, 19, 20, 21, 22, 39, 40, 41, 60} {
		g := ladder(t, changes)
		top := 100 - changes
		for i := range min(changes, api.MaxUndo) {
			if top+i == 99 {
				undo(t, g, none, 99)
			} else {
				undo(t, g, top+i+1, top+i)
			}
		}
		nothing(t, g)
		if stayed := g.Live(); len(stayed) != max(0, changes-api.MaxUndo) {
			t.Errorf("P8: of %d changes stayed %v", changes, stayed)
		}
	}
}

// Each Delete counts as each Insert does.
func TestP8DeletesAreChanges(t *testing.T) {
	g := ladder(t, 22)
	for id := 78; id < 98; id++ {
		remove(t, g, id, id+1, id)
	}
	forestIs(t, g, 98)
	for id := 97; id >= 78; id-- {
		undo(t, g, id, id+1)
	}
	nothing(t, g)
	forestIs(t, g, 78)
	if len(g.Live()) != 22 {
		t.Errorf("P8: Live() = %v", g.Live())
	}
}

// What was taken back leaves room for as many changes.
func TestP8ChangesBehindAnUndo(t *testing.T) {
	g := ladder(t, 25)
	for id := 75; id < 80; id++ {
		undo(t, g, id+1, id)
	}
	for id := range 5 {
		insert(t, g, id, 0, 0, 0, none, none)
	}
	insert(t, g, 5, 0, 1, 0, 5, 80)
	undo(t, g, 80, 5)
	for range 5 {
		undo(t, g, none, none)
	}
	for id := 80; id < 94; id++ {
		undo(t, g, id+1, id)
	}
	nothing(t, g)
	forestIs(t, g, 94)
	if ids := g.Live(); !slices.Equal(ids, []int{94, 95, 96, 97, 98, 99}) {
		t.Errorf("P8: Live() = %v", ids)
	}
}

// An Undo can't be taken back itself: the next one takes back what came ahead.
func TestP8UndoIsNoChange(t *testing.T) {
	g := open(t, 3, 60)
	insert(t, g, 1, 0, 1, 1, 1, none)
	insert(t, g, 2, 1, 2, 1, 2, none)
	remove(t, g, 1, none, 1)
	undo(t, g, 1, none)
	undo(t, g, none, 2)
	insert(t, g, 3, 0, 1, 0, 3, 1)
	undo(t, g, 1, 3)
	undo(t, g, none, 1)
	nothing(t, g)
}

func TestP8RefusedIsNoChange(t *testing.T) {
	g := open(t, 2, 1)
	insert(t, g, 3, 0, 1, 1, 3, none)
	for range api.MaxUndo + 1 {
		refused(t, g, -1, 0, 1, 0, api.ErrId)
		refused(t, g, 4, 0, 2, 0, api.ErrVertex)
		refused(t, g, 3, 0, 1, 0, api.ErrLive)
		refused(t, g, 4, 0, 1, 0, api.ErrFull)
		kept(t, g, 100, api.ErrId)
		kept(t, g, 4, api.ErrAbsent)
	}
	undo(t, g, none, 3)
	nothing(t, g)
	insert(t, g, 4, 0, 1, 0, 4, none)
	if ids := g.Live(); !slices.Equal(ids, []int{4}) {
		t.Errorf("P8: Live() = %v", ids)
	}
}

// Taking back a Delete fills a graph again.
func TestP8UndoFillsAgain(t *testing.T) {
	g := open(t, 2, 1)
	insert(t, g, 4, 0, 1, 0, 4, none)
	remove(t, g, 4, none, 4)
	insert(t, g, 5, 0, 1, 0, 5, none)
	undo(t, g, none, 5)
	undo(t, g, 4, none)
	refused(t, g, 5, 0, 1, 0, api.ErrFull)
	undo(t, g, none, 4)
	nothing(t, g)
}

// past is a model that also knows what can be taken back.
type past struct {
	*model
	back []map[int]api.Edge
}

// keep lays aside what the graph has, ahead of a change.
func (p *past) keep() {
	p.back = append(p.back, maps.Clone(p.edges))
	if len(p.back) > 20 {
		p.back = p.back[1:]
	}
}

// step draws a call, makes it, and demands the answer that the model has for it.
func (p *past) step(t *testing.T, r *rand.Rand, g *forest.Graph) {
	t.Helper()
	id := r.Intn(api.MaxId)
	if r.Intn(4) > 0 {
		id %= 12
	}
	x := api.Edge{U: r.Intn(p.vertices), V: r.Intn(p.vertices), W: drawWeight(r)}
	was := p.forest()
	_, live := p.edges[id]
	var c api.Change
	var e, refusal api.Errno
	switch call := r.Intn(8); {
	case call < 2:
		c, e = g.Undo()
		if n := len(p.back); n == 0 {
			refusal = api.ErrNothing
		} else {
			p.edges, p.back = p.back[n-1], p.back[:n-1]
		}
	case call < 5:
		c, e = g.Delete(id)
		if !live {
			refusal = api.ErrAbsent
		} else {
			p.keep()
			delete(p.edges, id)
		}
	default:
		c, e = g.Insert(id, x.U, x.V, x.W)
		switch {
		case live:
			refusal = api.ErrLive
		case len(p.edges) >= p.most:
			refusal = api.ErrFull
		default:
			p.keep()
			p.edges[id] = x
		}
	}
	want, single := difference(was, p.forest())
	if !single {
		t.Fatalf("the model changed by more than one edge")
	}
	if refusal != api.OK {
		want = api.Change{}
	}
	if c != want || e != refusal {
		t.Fatalf("P4, P7, P8: of %v: %v, %d, want %v, %d", p.edges, c, e, want, refusal)
	}
}

func TestP4ToP12ChangesAgainstTheModel(t *testing.T) {
	r := rand.New(rand.NewSource(9))
	for range 60 {
		vertices, most := 1+r.Intn(8), 1+r.Intn(20)
		g := open(t, vertices, most)
		p := &past{model: newModel(vertices, most)}
		for i := range 150 {
			p.step(t, r, g)
			if i%10 == 0 {
				compare(t, g, p.model)
			}
		}
		for len(p.back) > 0 {
			last := len(p.back) - 1
			p.edges, p.back = p.back[last], p.back[:last]
			if c, e := g.Undo(); e != api.OK {
				t.Fatalf("P8: Undo() = %v, %d, with %d more to take back", c, e, last)
			}
			compare(t, g, p.model)
		}
		nothing(t, g)
	}
}
