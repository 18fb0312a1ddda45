// Package forest: the cheapest forest of a graph whose edges come and go: see DOC.md.
package forest

import (
	"strconv"

	"forest/api"
)

// Graph is vertices, edges, the forest of them, and the changes that can be taken back.
//
// The forest itself is not kept: the edges settle it, and a graph is so small
// that working it out anew is cheap and can't fall behind them.
type Graph struct {
	vertices int
	most     int
	live     [api.MaxId]bool
	edges    [api.MaxId]api.Edge
	past     [api.MaxUndo]slot // what each change replaced, the oldest first
	changes  int               // so many of past are in use
}

// A weight is taken apart into two halves of so many bits.
const (
	halfBits = 32
	halfMask = 1<<halfBits - 1
)

// greatest is a weight that no edge exceeds.
const greatest = 1<<63 - 1

// New makes a graph without edges (P3).
func New(vertices int, most int) (*Graph, api.Errno) {
	if vertices < 1 || vertices > api.MaxVertices {
		return nil, api.ErrArg
	}
	if most < 1 || most > api.MaxEdges {
		return nil, api.ErrArg
	}
	return &Graph{vertices: vertices, most: most}, api.OK
}

// Insert puts an edge in (P4).
func (g *Graph) Insert(id int, u int, v int, w int) (api.Change, api.Errno) {
	if e := g.checkNew(id, u, v); e != api.OK {
		return api.Change{}, e
	}
	g.remember(id)
	c := g.set(slot{id: id, live: true, edge: api.Edge{U: u, V: v, W: w}})
	return c, api.OK
}

// Edge tells an edge (P5).
func (g *Graph) Edge(id int) (api.Edge, api.Errno) {
	if e := g.checkEdge(id); e != api.OK {
		return api.Edge{}, e
	}
	return g.edges[id], api.OK
}

// Live tells all edges (P5).
func (g *Graph) Live() []int {
	return marked(g.live)
}

// InForest tells whether an edge is in the forest (P6).
func (g *Graph) InForest(id int) (bool, api.Errno) {
	if e := g.checkEdge(id); e != api.OK {
		return false, e
	}
	in := g.cheapest()
	return in[id], api.OK
}

// Forest tells the forest's edges (P6).
func (g *Graph) Forest() []int {
	in := g.cheapest()
	return marked(in)
}

// Connected tells whether two vertices are joined (P6).
func (g *Graph) Connected(u int, v int) (bool, api.Errno) {
	if !g.isVertex(u) || !g.isVertex(v) {
		return false, api.ErrVertex
	}
	p := g.joinedUpTo(greatest)
	return p.same(u, v), api.OK
}

// Components tells how many parts the graph has (P6).
func (g *Graph) Components() int {
	// Without rings, each edge of the forest makes one part of two.
	in := g.Forest()
	return g.vertices - len(in)
}

// Weight tells what the forest weighs, in two numbers (P6).
func (g *Graph) Weight() (int, int) {
	in := g.Forest()
	hi := 0
	lo := 0
	for i := 0; i < len(in); i++ {
		// The halves are summed apart, as the whole sum may not fit an int.
		w := g.edges[in[i]].W
		hi += w >> halfBits
		lo += w & halfMask
	}
	return hi + lo>>halfBits, lo & halfMask
}

// Delete takes an edge out (P7).
func (g *Graph) Delete(id int) (api.Change, api.Errno) {
	if e := g.checkEdge(id); e != api.OK {
		return api.Change{}, e
	}
	g.remember(id)
	c := g.set(slot{id: id})
	return c, api.OK
}

// Undo takes the last change back (P8).
func (g *Graph) Undo() (api.Change, api.Errno) {
	if g.changes == 0 {
		return api.Change{}, api.ErrNothing
	}
	last := g.recall()
	c := g.set(last)
	return c, api.OK
}

// Heaviest tells the heaviest edge between two vertices in the forest (P9).
func (g *Graph) Heaviest(u int, v int) (int, api.Errno) {
	joined, e := g.Connected(u, v)
	if e != api.OK {
		return 0, e
	}
	if !joined {
		return 0, api.ErrApart
	}
	return g.heaviestBetween(u, v), api.OK
}

// Other tells which edge would come for one, or go for it (P10).
func (g *Graph) Other(id int) (int, api.Errno) {
	in, e := g.InForest(id)
	if e != api.OK {
		return 0, e
	}
	if in {
		return g.wouldCome(id), api.OK
	}
	x := g.edges[id]
	return g.heaviestBetween(x.U, x.V), api.OK
}

// Reach tells how many vertices are joined with one by light edges (P11).
func (g *Graph) Reach(u int, w int) (int, api.Errno) {
	if !g.isVertex(u) {
		return 0, api.ErrVertex
	}
	p := g.joinedUpTo(w)
	return p.size(u), api.OK
}

// Groups tells how many parts there are by light edges (P11).
func (g *Graph) Groups(w int) int {
	p := g.joinedUpTo(w)
	return p.count(g.vertices)
}

// Text writes the graph (P12).
func (g *Graph) Text() string {
	text := strconv.Itoa(g.vertices) + " " + strconv.Itoa(g.most) + "\n"
	ids := g.Live()
	for i := 0; i < len(ids); i++ {
		text += edgeLine(ids[i], g.edges[ids[i]])
	}
	return text
}

// Load reads a graph (P13).
func Load(text string) (*Graph, api.Errno) {
	vertices, at := readNumber(text, 0)
	most, at := readNumber(text, at)
	g, e := New(vertices, most)
	if e != api.OK {
		return nil, api.ErrText
	}
	for at < len(text) {
		s, next := readEdge(text, at)
		if e := g.checkNew(s.id, s.edge.U, s.edge.V); e != api.OK {
			return nil, api.ErrText
		}
		g.put(s)
		at = next
	}
	// Reading alone lets much pass that Text does not write: other bytes
	// between the numbers, noughts in front, edges that do not rise.
	if told := g.Text(); told != text {
		return nil, api.ErrText
	}
	return g, api.OK
}
