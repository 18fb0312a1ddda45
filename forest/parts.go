package forest

import "forest/api"

// parts tells which vertices are joined: those whose part has the same number,
// which is the number of one of them.
type parts struct {
	of [api.MaxVertices]int
}

// apart gives parts of one vertex each.
func apart() parts {
	var p parts
	for v := 0; v < api.MaxVertices; v++ {
		p.of[v] = v
	}
	return p
}

// same tells whether u and v are in one part.
func (p *parts) same(u int, v int) bool {
	return p.of[u] == p.of[v]
}

// join makes one part of those of u and v.
func (p *parts) join(u int, v int) {
	kept := p.of[u]
	gone := p.of[v]
	for x := 0; x < api.MaxVertices; x++ {
		if p.of[x] == gone {
			p.of[x] = kept
		}
	}
}

// size tells how many vertices the part of u has.
func (p *parts) size(u int) int {
	n := 0
	for v := 0; v < api.MaxVertices; v++ {
		// What is past the graph's last vertex is never joined with u.
		if p.same(u, v) {
			n++
		}
	}
	return n
}

// count tells into how many parts the first so many vertices fall.
func (p *parts) count(vertices int) int {
	n := 0
	for v := 0; v < vertices; v++ {
		// Of each part, one vertex alone has the part's number.
		if p.of[v] == v {
			n++
		}
	}
	return n
}
