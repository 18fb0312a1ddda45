package forest

import "forest/api"

// parts tells which vertices are joined: those whose part has the same number.
type parts struct {
	of [api.MaxVertices]int
}

// apart gives parts of one vertex each.
func apart() parts {
	var p parts
	for v := 0; v < api.MaxVertices; v++ {
		p.of[v] = v
	}
	return p
}

// same tells whether u and v are in one part.
func (p *parts) same(u int, v int) bool {
	return p.of[u] == p.of[v]
}

// join makes one part of those of u and v.
func (p *parts) join(u int, v int) {
	kept := p.of[u]
	gone := p.of[v]
	for x := 0; x < api.MaxVertices; x++ {
		if p.of[x] == gone {
			p.of[x] = kept
		}
	}
}
