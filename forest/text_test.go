package forest_test

import (
	"fmt"
	"maps"
	"math/rand"
	"regexp"
	"slices"
	"strconv"
	"strings"
	"testing"

	"forest/api"
)

// full is a text of as many edges as there may be.
func full() string {
	s := "30 60\n"
	for i := range 60 {
		s += fmt.Sprintf("%d %d %d %d\n", 40+i, i%30, (i*7)%30, 1000-i*i)
	}
	return s
}

// samples are texts of graphs.
var samples = []string{
	"1 1\n",
	"30 60\n",
	"2 1\n99 1 0 0\n",
	"4 5\n0 3 3 -8\n1 0 2 5\n3 1 2 5\n7 0 1 5\n9 2 0 5\n",
	"30 2\n10 29 0 -9223372036854775808\n20 0 29 9223372036854775807\n",
	full(),
}

func TestP12Example(t *testing.T) {
	g := example(t)
	textIs(t, g, "4 5\n0 3 3 -8\n1 0 2 5\n3 1 2 5\n7 0 1 5\n9 2 0 5\n")
	remove(t, g, 1, 7, 1)
	textIs(t, g, "4 5\n0 3 3 -8\n3 1 2 5\n7 0 1 5\n9 2 0 5\n")
	undo(t, g, 1, 7)
	undo(t, g, none, none)
	undo(t, g, 7, 1)
	textIs(t, g, "4 5\n3 1 2 5\n7 0 1 5\n9 2 0 5\n")
}

func TestP12P13WithoutEdges(t *testing.T) {
	for vertices := 1; vertices <= 30; vertices++ {
		for most := 1; most <= 60; most++ {
			text := fmt.Sprintf("%d %d\n", vertices, most)
			textIs(t, open(t, vertices, most), text)
			g := load(t, text)
			if g.Components() != vertices || len(g.Live()) != 0 {
				t.Errorf("P13: Load(%q): %d parts, the edges %v", text, g.Components(), g.Live())
			}
		}
	}
}

func TestP12FullGraph(t *testing.T) {
	g, want := open(t, 30, 60), "30 60\n"
	for i := range 60 {
		g.Insert(99-i, i%30, 29-i%7, -i)
	}
	for i := 59; i >= 0; i-- {
		want += fmt.Sprintf("%d %d %d %d\n", 99-i, i%30, 29-i%7, -i)
	}
	textIs(t, g, want)
	refused(t, g, 0, 0, 0, 0, api.ErrFull)
	textIs(t, g, want)
}

func TestP12Numbers(t *testing.T) {
	for _, c := range []struct {
		id, u, v, w int
		line        string
	}{
		{0, 0, 0, 0, "0 0 0 0\n"},
		{9, 9, 10, -1, "9 9 10 -1\n"},
		{10, 10, 9, 10, "10 10 9 10\n"},
		{99, 29, 20, -10, "99 29 20 -10\n"},
		{1, 2, 3, great, "1 2 3 9223372036854775807\n"},
		{1, 3, 2, great - 1, "1 3 2 9223372036854775806\n"},
		{90, 0, 29, least, "90 0 29 -9223372036854775808\n"},
		{90, 29, 0, least + 1, "90 29 0 -9223372036854775807\n"},
		{5, 1, 1, 1000000, "5 1 1 1000000\n"},
	} {
		g := open(t, 30, 1)
		g.Insert(c.id, c.u, c.v, c.w)
		textIs(t, g, "30 1\n"+c.line)
	}
}

func TestP12RisesInWhateverOrder(t *testing.T) {
	g := open(t, 2, 60)
	for _, id := range []int{10, 9, 99, 0, 2, 1, 11} {
		g.Insert(id, 1, 0, -id)
	}
	textIs(t, g, "2 60\n0 1 0 0\n1 1 0 -1\n2 1 0 -2\n9 1 0 -9\n10 1 0 -10\n11 1 0 -11\n99 1 0 -99\n")
}

// What went and came again stands there as it came last.
func TestP12FollowsTheChanges(t *testing.T) {
	g := open(t, 3, 2)
	g.Insert(5, 0, 1, 7)
	g.Delete(5)
	textIs(t, g, "3 2\n")
	g.Insert(5, 1, 0, 8)
	textIs(t, g, "3 2\n5 1 0 8\n")
	g.Undo()
	textIs(t, g, "3 2\n")
	g.Undo()
	textIs(t, g, "3 2\n5 0 1 7\n")
}

func TestP13Example(t *testing.T) {
	g := load(t, "1 1\n")
	if g.Components() != 1 || len(g.Live()) != 0 {
		t.Errorf("P13: %d parts, the edges %v", g.Components(), g.Live())
	}
	for _, text := range []string{"1 1", "1 1\n\n", "01 1\n", "31 1\n", "2 2\n1 0 1 5\n0 0 1 5\n", "2 1\n0 0 1 5\n1 0 1 5\n"} {
		unreadable(t, text)
	}
}

func TestP13Samples(t *testing.T) {
	for _, text := range samples {
		load(t, text)
	}
}

// A graph that was read tells all that the one tells that was written.
func TestP13ReadTellsWhatWasWritten(t *testing.T) {
	g := example(t)
	h := load(t, g.Text())
	if told(h) != told(g) {
		t.Errorf("P13: of\n%s\nwas read\n%s", told(g), told(h))
	}
	forestIs(t, h, 1, 3)
	for _, x := range []int{0, 1, 3, 7, 9} {
		a, _ := g.Edge(x)
		if b, e := h.Edge(x); a != b || e != api.OK {
			t.Errorf("P13: Edge(%d) = %v, %d, want %v", x, b, e, a)
		}
	}
}

func TestP13NothingToBeTakenBack(t *testing.T) {
	for _, text := range samples {
		g := load(t, text)
		nothing(t, g)
		nothing(t, g)
		textIs(t, g, text)
	}
}

// Changes of a graph that was read are taken back down to what was read.
func TestP13GoesOnLikeAnother(t *testing.T) {
	text := example(t).Text()
	g := load(t, text)
	refused(t, g, 2, 2, 3, 1, api.ErrFull)
	refused(t, g, 1, 0, 9, 1, api.ErrVertex)
	refused(t, g, 1, 0, 0, 1, api.ErrLive)
	nothing(t, g)
	remove(t, g, 1, 7, 1)
	insert(t, g, 2, 2, 3, 1, 2, none)
	refused(t, g, 1, 2, 3, 1, api.ErrFull)
	textIs(t, g, "4 5\n0 3 3 -8\n2 2 3 1\n3 1 2 5\n7 0 1 5\n9 2 0 5\n")
	undo(t, g, none, 2)
	undo(t, g, 1, 7)
	nothing(t, g)
	textIs(t, g, text)
}

// A graph that was read keeps as many changes as another, from the first on.
func TestP13TakesBackAsMuchAsAnother(t *testing.T) {
	for _, changes := range []int{19, 20, 21, 25} {
		g := load(t, "2 60\n50 0 1 5\n51 1 0 5\n")
		for id := range changes {
			insert(t, g, id, 0, 0, id, none, none)
		}
		for range min(changes, api.MaxUndo) {
			undo(t, g, none, none)
		}
		nothing(t, g)
		if ids := g.Live(); len(ids) != 2+max(0, changes-api.MaxUndo) {
			t.Errorf("P13: of %d changes stayed %v", changes, ids)
		}
	}
}

func TestP13ReadGraphsAgainstTheModel(t *testing.T) {
	r := rand.New(rand.NewSource(11))
	for range 40 {
		vertices, most := 1+r.Intn(8), 1+r.Intn(20)
		g := open(t, vertices, most)
		p := &past{model: newModel(vertices, most)}
		for range 60 {
			p.step(t, r, g)
		}
		h := load(t, p.text())
		q := &past{model: newModel(vertices, most)}
		maps.Copy(q.edges, p.edges)
		compare(t, h, q.model)
		nothing(t, h)
		for range 60 {
			q.step(t, r, h)
		}
		compare(t, h, q.model)
		compare(t, g, p.model)
	}
}

func TestP13Sizes(t *testing.T) {
	for _, vertices := range append(extremes, 15, 300) {
		for _, most := range append(extremes, 15, 300) {
			text := fmt.Sprintf("%d %d\n", vertices, most)
			if vertices >= 1 && vertices <= 30 && most >= 1 && most <= 60 {
				load(t, text)
			} else {
				unreadable(t, text)
			}
		}
	}
	// These would be 1, if they lost what is beyond 64 bits.
	unreadable(t, "18446744073709551617 1\n")
	unreadable(t, "1 18446744073709551617\n")
	unreadable(t, "-18446744073709551615 1\n")
}

func TestP13NumbersAndEndsOfEdges(t *testing.T) {
	for _, x := range append(extremes, 2, 3) {
		id := fmt.Sprintf("3 2\n%d 0 1 5\n", x)
		if x >= 0 && x <= 99 {
			load(t, id)
		} else {
			unreadable(t, id)
		}
		for _, text := range []string{fmt.Sprintf("3 2\n5 %d 1 5\n", x), fmt.Sprintf("3 2\n5 1 %d 5\n", x), fmt.Sprintf("3 2\n5 %d %d 5\n", x, x)} {
			if x >= 0 && x <= 2 {
				load(t, text)
			} else {
				unreadable(t, text)
			}
		}
	}
}

func TestP13Weights(t *testing.T) {
	for _, w := range append(extremes, 9, 10, -9, -10) {
		g := load(t, fmt.Sprintf("2 1\n5 1 0 %d\n", w))
		if x, e := g.Edge(5); x != (api.Edge{U: 1, V: 0, W: w}) || e != api.OK {
			t.Errorf("P13: Edge(5) = %v, %d, want the weight %d", x, e, w)
		}
	}
	for _, w := range []string{
		"9223372036854775808", "-9223372036854775809", "9223372036854775809", "9223372036854775810", "-9223372036854775810",
		"18446744073709551615", "18446744073709551616", "18446744073709551621", "-18446744073709551611", "-18446744073709551616",
		"10000000000000000000", "99999999999999999999", "92233720368547758070", "-92233720368547758080", "340282366920938463463374607431768211461",
		strings.Repeat("9", 1000), "-" + strings.Repeat("9", 1000), "1" + strings.Repeat("0", 64), strings.Repeat("0", 64) + "1",
	} {
		unreadable(t, "2 1\n5 1 0 "+w+"\n")
	}
}

// Each number of a text in its turn is written otherwise than Text writes it.
func TestP13Spelling(t *testing.T) {
	wrong := []string{"", "-", "+", "00", "-0", "+0", "+1", "01", "001", "-01", "--1", "1-", "-+1", "+-1", "- 1", "-1-", "1.", "1.0", ".1", "1e0", "1E0", "0x1", "0b1", "0o1", "1_0", "1,0", "a", "1a", "one", "\u0661", "\uff11", "\u22121", "1\x00", "\x001", "\xff", "\ufeff1", "'1'", "/", ":", ";1"}
	for _, x := range wrong {
		for i := range 6 {
			words := strings.Split("5,5,1,1,1,1", ",")
			words[i] = x
			w := words
			unreadable(t, w[0]+" "+w[1]+"\n"+w[2]+" "+w[3]+" "+w[4]+" "+w[5]+"\n")
			unreadable(t, w[0]+" "+w[1]+"\n"+w[2]+" "+w[3]+" "+w[4]+" "+w[5]+"\n9 0 1 3\n")
		}
	}
	load(t, "5 5\n1 1 1 1\n")
}

// Each blank and each line feed of a text in its turn is missing, doubled or another.
func TestP13BlanksAndLineFeeds(t *testing.T) {
	for _, text := range samples {
		for i := range text {
			if text[i] != ' ' && text[i] != '\n' {
				continue
			}
			for _, x := range []string{"", "  ", "\n\n", " \n", "\n ", "\t", "\r", "\r\n", "\n\r", "\v", "\f", "\x00", ",", "_", "-", "\u00a0", "\u0085", "\u2028", "\u2003"} {
				unreadable(t, text[:i]+x+text[i+1:])
			}
			unreadable(t, text[:i]+string(' '+'\n'-rune(text[i]))+text[i+1:])
		}
		for _, x := range []string{" ", "\n", "\r", "\t", "\x00", "-", "0", "#", "\ufeff", "1 1\n"} {
			unreadable(t, x+text)
			unreadable(t, text+x)
		}
	}
}

func TestP13ShortTexts(t *testing.T) {
	for _, text := range []string{"", "\n", " ", "-", "0", "1", "1\n", "1 ", "1 \n", " \n", "\n\n", "\x00", "\xff", "1\n1\n", "1 1 1\n", "1 1 1", "-1 -1\n"} {
		unreadable(t, text)
	}
}

// A text that breaks off is a graph's only behind a line.
func TestP13BrokenOff(t *testing.T) {
	for _, text := range samples {
		for i := range text {
			if i > 0 && text[i-1] == '\n' {
				load(t, text[:i])
			} else {
				unreadable(t, text[:i])
			}
		}
	}
}

// A line of the first kind among the edges, or with too few or too many numbers.
func TestP13Lines(t *testing.T) {
	for _, line := range []string{"", "5", "5 0", "5 0 1", "5 0 1 7 8", "5 0 1 7 8 0 1 9", "2 2", "# 5 0 1 7"} {
		unreadable(t, "2 2\n"+line+"\n")
		unreadable(t, "2 2\n"+line+"\n9 0 1 7\n")
		unreadable(t, "2 2\n1 0 1 7\n"+line+"\n")
	}
	unreadable(t, "5 0 1 7\n")
	unreadable(t, "5 0 1 7\n2 2\n")
	unreadable(t, "2 2 5 0 1 7\n")
	unreadable(t, "2\n2\n")
}

func TestP13EdgesRise(t *testing.T) {
	for _, a := range []int{0, 1, 9, 10, 11, 98, 99} {
		for _, b := range []int{0, 1, 9, 10, 11, 98, 99} {
			text := fmt.Sprintf("2 60\n%d 0 1 5\n%d 1 0 6\n", a, b)
			if a < b {
				load(t, text)
			} else {
				unreadable(t, text)
			}
		}
	}
	unreadable(t, "2 60\n1 0 1 5\n1 0 1 5\n")
	unreadable(t, "2 60\n1 0 0 5\n3 0 0 5\n2 0 0 5\n4 0 0 5\n")
	unreadable(t, "2 60\n1 0 0 5\n2 0 0 5\n3 0 0 5\n1 0 0 5\n")
}

func TestP13AsManyEdgesAsThereMayBe(t *testing.T) {
	for most := 1; most <= 60; most++ {
		text := fmt.Sprintf("1 %d\n", most)
		for id := range most {
			text += fmt.Sprintf("%d 0 0 %d\n", id, -id)
		}
		g := load(t, text)
		refused(t, g, 99, 0, 0, 0, api.ErrFull)
		unreadable(t, text+fmt.Sprintf("%d 0 0 1\n", most))
		unreadable(t, text+"99 0 0 1\n")
	}
	unreadable(t, strings.Replace(full(), "30 60", "30 59", 1))
	unreadable(t, strings.Replace(full(), "30 60", "30 61", 1))
	unreadable(t, strings.Replace(full(), "30 60", "29 60", 1))
}

func TestP13LongTexts(t *testing.T) {
	const n = 3000000
	for _, x := range []string{"0", "1", "-", " ", "\n", "1 ", "1\n", "1 1\n", "0 0 0 0\n", "-1", "\x00", "\xff"} {
		long := strings.Repeat(x, n)
		unreadable(t, long)
		unreadable(t, "1 1\n"+long)
		unreadable(t, "1 1\n0 0 0 "+long+"\n")
		unreadable(t, "1 1\n0 0 0 0\n"+long)
		unreadable(t, full()+long)
	}
}

var shape = regexp.MustCompile(`\A(0|[1-9][0-9]*) (0|[1-9][0-9]*)\n(?:(0|[1-9][0-9]*) (0|[1-9][0-9]*) (0|[1-9][0-9]*) (0|-?[1-9][0-9]*)\n)*\z`)

// isText tells by the document's words alone whether a text is a graph's.
func isText(text string) bool {
	if !shape.MatchString(text) {
		return false
	}
	lines := strings.Split(strings.TrimSuffix(text, "\n"), "\n")
	var numbers [][]int
	for _, line := range lines {
		var row []int
		for _, word := range strings.Split(line, " ") {
			x, e := strconv.ParseInt(word, 10, 64)
			if e != nil {
				return false
			}
			row = append(row, int(x))
		}
		numbers = append(numbers, row)
	}
	vertices, most, last := numbers[0][0], numbers[0][1], -1
	for _, row := range numbers[1:] {
		if row[0] <= last || row[0] > 99 || row[1] >= vertices || row[2] >= vertices {
			return false
		}
		last = row[0]
	}
	return vertices >= 1 && vertices <= 30 && most >= 1 && most <= 60 && len(numbers)-1 <= most
}

// judge demands of Load what isText tells.
func judge(t *testing.T, text string) bool {
	t.Helper()
	is := isText(text)
	if is {
		load(t, text)
	} else {
		unreadable(t, text)
	}
	return is
}

// every judges a text followed by every string of so many of these bytes, and tells how many are a graph's.
func every(t *testing.T, text string, bytes string, count int) int {
	t.Helper()
	found := 0
	if judge(t, text) {
		found++
	}
	if count > 0 {
		for i := range bytes {
			found += every(t, text+bytes[i:i+1], bytes, count-1)
		}
	}
	return found
}

func TestP13EveryShortText(t *testing.T) {
	// One or two digits of 0, 1, 3 and 6 for the vertices: 1, 3, 6, 10, 11, 13, 16, 30; for the edges also 31, 33, 36, 60.
	if n := every(t, "", "0136 -\n", 5); n != 3*3+3*9+5*3 {
		t.Errorf("P13: %d short texts were read", n)
	}
	// An edge of 0 or 1, with the ends 0 or 1, of the weight 0 or 1; or none.
	if n := every(t, "2 1\n", "01 -\n", 8); n != 1+16 {
		t.Errorf("P13: %d short texts of an edge were read", n)
	}
}

// One byte is missing, is another, or is one too many.
func TestP13EveryByte(t *testing.T) {
	for _, text := range []string{"1 1\n", "30 60\n", "12 3\n0 1 10 -5\n9 11 0 0\n10 3 3 9223372036854775807\n"} {
		for i := 0; i <= len(text); i++ {
			for b := range 256 {
				x := string([]byte{byte(b)})
				judge(t, text[:i]+x+text[i:])
				if i < len(text) {
					judge(t, text[:i]+x+text[i+1:])
				}
			}
			if i < len(text) {
				judge(t, text[:i]+text[i+1:])
			}
		}
	}
}

// drawText draws a graph's text, and mostly spoils it a little.
func drawText(r *rand.Rand) string {
	vertices, most := 1+r.Intn(31), 1+r.Intn(12)
	ids := r.Perm(101)[:r.Intn(most+2)]
	if r.Intn(8) > 0 {
		slices.Sort(ids)
	}
	s := fmt.Sprintf("%d %d\n", vertices, most)
	for _, id := range ids {
		s += fmt.Sprintf("%d %d %d %d\n", id, r.Intn(vertices), r.Intn(vertices), drawWeight(r))
	}
	for range r.Intn(3) {
		i := r.Intn(len(s))
		switch r.Intn(3) {
		case 0:
			s = s[:i] + s[i+1:]
		case 1:
			s = s[:i] + "0123456789 -\n"[r.Intn(13):][:1] + s[i+1:]
		default:
			s = s[:i] + "0123456789 -\n"[r.Intn(13):][:1] + s[i:]
		}
		if s == "" {
			break
		}
	}
	return s
}

func TestP13DrawnTexts(t *testing.T) {
	r := rand.New(rand.NewSource(12))
	read := 0
	const n = 20000
	for range n {
		if judge(t, drawText(r)) {
			read++
		}
	}
	if read < n/10 || read > n*9/10 {
		t.Errorf("the drawn texts are one-sided: %d of %d are a graph's", read, n)
	}
}
