package forest

import "forest/api"

// slot is what a number stands for: an edge, or none if it is not live.
type slot struct {
	id   int
	live bool
	edge api.Edge
}

// slotOf tells what a number stands for now.
func (g *Graph) slotOf(id int) slot {
	return slot{id: id, live: g.live[id], edge: g.edges[id]}
}

// put makes a number stand for something else.
func (g *Graph) put(s slot) {
	g.live[s.id] = s.live
	g.edges[s.id] = s.edge
}

// set makes a number stand for something else, and tells how the forest changed.
func (g *Graph) set(s slot) api.Change {
	was := g.cheapest()
	g.put(s)
	now := g.cheapest()
	return change(was, now)
}

// remember keeps what a number stands for, ahead of a change that can be taken back.
func (g *Graph) remember(id int) {
	if g.changes >= api.MaxUndo {
		g.forgetOldest()
	}
	g.past[g.changes] = g.slotOf(id)
	g.changes++
}

// forgetOldest makes room for one more change.
func (g *Graph) forgetOldest() {
	for i := 1; i < g.changes; i++ {
		g.past[i-1] = g.past[i]
	}
	g.changes--
}

// recall gives what was remembered last, and forgets it. There must be something.
func (g *Graph) recall() slot {
	g.changes--
	s := g.past[g.changes]
	// No more is kept than can be taken back.
	g.past[g.changes] = slot{}
	return s
}
