package forest

import "forest/api"

// lighter tells whether edge a is lighter than edge b.
func (g *Graph) lighter(a int, b int) bool {
	if g.edges[a].W != g.edges[b].W {
		return g.edges[a].W < g.edges[b].W
	}
	return a < b
}

// lightestFirst tells all edges, each ahead of the heavier ones.
func (g *Graph) lightestFirst() []int {
	ids := g.Live()
	for next := 1; next < len(ids); next++ {
		for i := next; i > 0 && g.lighter(ids[i], ids[i-1]); i-- {
			id := ids[i]
			ids[i] = ids[i-1]
			ids[i-1] = id
		}
	}
	return ids
}

// cheapest marks the edges of the forest.
func (g *Graph) cheapest() [api.MaxId]bool {
	var in [api.MaxId]bool
	ids := g.lightestFirst()
	p := apart()
	for i := 0; i < len(ids); i++ {
		// When an edge's turn comes, p tells what the lighter ones join.
		id := ids[i]
		e := g.edges[id]
		in[id] = !p.same(e.U, e.V)
		p.join(e.U, e.V)
	}
	return in
}

// joinedUpTo tells the parts that the edges make whose weight is at most w.
func (g *Graph) joinedUpTo(w int) parts {
	ids := g.Live()
	p := apart()
	for i := 0; i < len(ids); i++ {
		e := g.edges[ids[i]]
		if e.W <= w {
			p.join(e.U, e.V)
		}
	}
	return p
}

// heaviestBetween tells the heaviest edge on the way from u to v in the forest,
// None if there is no way, or none is needed.
func (g *Graph) heaviestBetween(u int, v int) int {
	if u == v {
		return api.None
	}
	ids := g.lightestFirst()
	p := apart()
	for i := 0; i < len(ids); i++ {
		// The way is whole as soon as its heaviest edge is there, and not
		// before: no other edge of the forest can stand in for that one, and
		// one outside it joins only what lighter ones have joined.
		e := g.edges[ids[i]]
		p.join(e.U, e.V)
		if p.same(u, v) {
			return ids[i]
		}
	}
	return api.None
}

// wouldCome tells the edge that would come into the forest if this one went, None if none would.
func (g *Graph) wouldCome(id int) int {
	// It goes from a copy, for asking changes nothing.
	without := *g
	c := without.set(slot{id: id})
	return c.Added
}

// change tells what is marked in one of two forests alone.
func change(was [api.MaxId]bool, now [api.MaxId]bool) api.Change {
	c := api.Change{Added: api.None, Removed: api.None}
	for id := 0; id < api.MaxId; id++ {
		if now[id] && !was[id] {
			c.Added = id
		}
		if was[id] && !now[id] {
			c.Removed = id
		}
	}
	return c
}

// marked tells the marked numbers, rising, in a list of its own.
func marked(marks [api.MaxId]bool) []int {
	var ids []int
	for id := 0; id < api.MaxId; id++ {
		if marks[id] {
			ids = append(ids, id)
		}
	}
	return ids
}
