package forest

import "forest/api"

// isId tells whether an edge may have this number.
func isId(id int) bool {
	return id >= 0 && id < api.MaxId
}

// checkEdge answers OK, or why there is no edge of this number.
func (g *Graph) checkEdge(id int) api.Errno {
	if !isId(id) {
		return api.ErrId
	}
	if !g.live[id] {
		return api.ErrAbsent
	}
	return api.OK
}

// checkNew answers OK, or why an edge of this number and these ends can't come.
func (g *Graph) checkNew(id int, u int, v int) api.Errno {
	if !isId(id) {
		return api.ErrId
	}
	if !g.isVertex(u) || !g.isVertex(v) {
		return api.ErrVertex
	}
	if g.live[id] {
		return api.ErrLive
	}
	if g.isFull() {
		return api.ErrFull
	}
	return api.OK
}

// isVertex tells whether the graph has this vertex.
func (g *Graph) isVertex(v int) bool {
	return v >= 0 && v < g.vertices
}

// isFull tells whether the graph has as many edges as it may.
func (g *Graph) isFull() bool {
	ids := g.Live()
	return len(ids) >= g.most
}
