package forest

import (
	"strconv"

	"forest/api"
)

// edgeLine writes the line of an edge.
func edgeLine(id int, e api.Edge) string {
	ends := strconv.Itoa(e.U) + " " + strconv.Itoa(e.V)
	return strconv.Itoa(id) + " " + ends + " " + strconv.Itoa(e.W) + "\n"
}

// readEdge reads the line of an edge, and tells where the next one begins.
func readEdge(text string, at int) (slot, int) {
	id, at := readNumber(text, at)
	u, at := readNumber(text, at)
	v, at := readNumber(text, at)
	w, at := readNumber(text, at)
	return slot{id: id, live: true, edge: api.Edge{U: u, V: v, W: w}}, at
}

// readNumber reads a number, and tells where the next one begins: there is one
// byte between them. Where there is no number, or one that does not fit an
// int, it gives any: what was read is compared with the text in the end.
func readNumber(text string, at int) (int, int) {
	below := at < len(text) && text[at] == '-'
	if below {
		at++
	}
	n := 0
	for at < len(text) && isDigit(text[at]) {
		// It grows downwards, as there is one number more below 0 than above.
		n = n*10 - int(text[at]-'0')
		at++
	}
	if !below {
		n = -n
	}
	return n, at + 1
}

// isDigit tells whether a byte is a digit.
func isDigit(b byte) bool {
	return b >= '0' && b <= '9'
}
