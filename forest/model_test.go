package forest_test

import (
	"math/big"
	"slices"

	"forest/api"
)

// model is a graph that is asked by the document's words alone, however slowly.
type model struct {
	vertices int
	edges    map[int]api.Edge
}

func newModel(vertices int) *model {
	return &model{vertices: vertices, edges: map[int]api.Edge{}}
}

func (m *model) lighter(a, b int) bool {
	x, y := m.edges[a], m.edges[b]
	return x.W < y.W || x.W == y.W && a < b
}

// path tells whether those of the edges that may be walked join u and v.
func (m *model) path(u, v int, may func(id int) bool) bool {
	seen := make([]bool, m.vertices)
	seen[u] = true
	todo := []int{u}
	for len(todo) > 0 {
		x := todo[0]
		todo = todo[1:]
		for id, e := range m.edges {
			if !may(id) || e.U != x && e.V != x {
				continue
			}
			if y := e.U + e.V - x; !seen[y] {
				seen[y] = true
				todo = append(todo, y)
			}
		}
	}
	return seen[v]
}

func (m *model) connected(u, v int) bool {
	return m.path(u, v, func(int) bool { return true })
}

func (m *model) inForest(id int) bool {
	e := m.edges[id]
	return e.U != e.V && !m.path(e.U, e.V, func(x int) bool { return m.lighter(x, id) })
}

func (m *model) live() []int {
	var ids []int
	for id := range m.edges {
		ids = append(ids, id)
	}
	slices.Sort(ids)
	return ids
}

func (m *model) forest() []int {
	var ids []int
	for _, id := range m.live() {
		if m.inForest(id) {
			ids = append(ids, id)
		}
	}
	return ids
}

// components counts the vertices that no vertex ahead of them is joined with.
func (m *model) components() int {
	count := 0
	for v := range m.vertices {
		first := true
		for u := range v {
			first = first && !m.connected(u, v)
		}
		if first {
			count++
		}
	}
	return count
}

func (m *model) weight() *big.Int {
	sum := new(big.Int)
	for _, id := range m.forest() {
		sum.Add(sum, big.NewInt(int64(m.edges[id].W)))
	}
	return sum
}

// difference tells what is in one of the lists alone; it wants at most one number each.
func difference(was, now []int) (api.Change, bool) {
	c := api.Change{Added: none, Removed: none}
	added, removed := 0, 0
	for _, id := range now {
		if !slices.Contains(was, id) {
			c.Added = id
			added++
		}
	}
	for _, id := range was {
		if !slices.Contains(now, id) {
			c.Removed = id
			removed++
		}
	}
	return c, added <= 1 && removed <= 1
}
