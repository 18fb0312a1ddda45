package forest_test

import (
	"fmt"
	"maps"
	"math/big"
	"slices"

	"forest/api"
)

// model is a graph that is asked by the document's words alone, however slowly.
type model struct {
	vertices int
	most     int
	edges    map[int]api.Edge
}

func newModel(vertices, most int) *model {
	return &model{vertices: vertices, most: most, edges: map[int]api.Edge{}}
}

func (m *model) lighter(a, b int) bool {
	x, y := m.edges[a], m.edges[b]
	return x.W < y.W || x.W == y.W && a < b
}

// path tells whether those of the edges that may be walked join u and v.
func (m *model) path(u, v int, may func(id int) bool) bool {
	seen := make([]bool, m.vertices)
	seen[u] = true
	todo := []int{u}
	for len(todo) > 0 {
		x := todo[0]
		todo = todo[1:]
		for id, e := range m.edges {
			if !may(id) || e.U != x && e.V != x {
				continue
			}
			if y := e.U + e.V - x; !seen[y] {
				seen[y] = true
				todo = append(todo, y)
			}
		}
	}
	return seen[v]
}

func all(int) bool { return true }

func (m *model) connected(u, v int) bool {
	return m.path(u, v, all)
}

func (m *model) inForest(id int) bool {
	e := m.edges[id]
	return e.U != e.V && !m.path(e.U, e.V, func(x int) bool { return m.lighter(x, id) })
}

func (m *model) live() []int {
	var ids []int
	for id := range m.edges {
		ids = append(ids, id)
	}
	slices.Sort(ids)
	return ids
}

func (m *model) forest() []int {
	var ids []int
	for _, id := range m.live() {
		if m.inForest(id) {
			ids = append(ids, id)
		}
	}
	return ids
}

// pieces counts the vertices that no vertex ahead of them is joined with by the edges that may be walked.
func (m *model) pieces(may func(id int) bool) int {
	count := 0
	for v := range m.vertices {
		first := true
		for u := range v {
			first = first && !m.path(u, v, may)
		}
		if first {
			count++
		}
	}
	return count
}

func (m *model) components() int {
	return m.pieces(all)
}

func (m *model) weight() *big.Int {
	sum := new(big.Int)
	for _, id := range m.forest() {
		sum.Add(sum, big.NewInt(int64(m.edges[id].W)))
	}
	return sum
}

// heaviest tells the heaviest of those edges of the forest without which it does not join u and v.
func (m *model) heaviest(u, v int, trees []int) int {
	top := none
	for _, id := range trees {
		without := func(x int) bool { return x != id && slices.Contains(trees, x) }
		if !m.path(u, v, without) && (top == none || m.lighter(top, id)) {
			top = id
		}
	}
	return top
}

// without is the model of the graph that an edge has left.
func (m *model) without(id int) *model {
	edges := maps.Clone(m.edges)
	delete(edges, id)
	return &model{vertices: m.vertices, most: m.most, edges: edges}
}

func (m *model) other(id int, trees []int) int {
	if !slices.Contains(trees, id) {
		return m.heaviest(m.edges[id].U, m.edges[id].V, trees)
	}
	c, _ := difference(trees, m.without(id).forest())
	return c.Added
}

// light tells of edges whether their weight is at most w.
func (m *model) light(w int) func(id int) bool {
	return func(id int) bool { return m.edges[id].W <= w }
}

func (m *model) reach(u, w int) int {
	count := 0
	for v := range m.vertices {
		if m.path(u, v, m.light(w)) {
			count++
		}
	}
	return count
}

func (m *model) groups(w int) int {
	return m.pieces(m.light(w))
}

func (m *model) text() string {
	s := fmt.Sprintf("%d %d\n", m.vertices, m.most)
	for _, id := range m.live() {
		x := m.edges[id]
		s += fmt.Sprintf("%d %d %d %d\n", id, x.U, x.V, x.W)
	}
	return s
}

// difference tells what is in one of the lists alone; it wants at most one number each.
func difference(was, now []int) (api.Change, bool) {
	c := api.Change{Added: none, Removed: none}
	added, removed := 0, 0
	for _, id := range now {
		if !slices.Contains(was, id) {
			c.Added = id
			added++
		}
	}
	for _, id := range was {
		if !slices.Contains(now, id) {
			c.Removed = id
			removed++
		}
	}
	return c, added <= 1 && removed <= 1
}
