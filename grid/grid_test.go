package grid

import (
	"math"
	"slices"
	"strings"
	"testing"

	"dynamo/tag"
)

// odd are numbers that no cell and no side has, or only a great one: cut to a byte, or turned round, some would be.
var odd = []int{
	-1, -2, -7, -8, -9, -63, -64, -65, -255, -256, -257, 8, 9, 10, 63, 64, 65, 72, 81, 127, 128, 255, 256, 257, 258, 1 << 16,
	1<<31 - 1, 1 << 31, -1 << 31, -1<<31 + 1, 1 << 32, 1<<32 + 1, -1 << 32, -1<<32 + 1, 1 << 62, math.MaxInt, math.MaxInt - 1, math.MinInt, math.MinInt + 1,
}

// numbers answers a function that makes numbers from 0 on, always the same ones of one seed.
func numbers(seed uint64) func() int {
	return func() int {
		seed = seed*6364136223846793005 + 1442695040888963407
		return int(seed >> 33)
	}
}

// wants holds an error's number against the one that it must have.
func wants(t *testing.T, err error, want int, call string, args ...any) {
	t.Helper()
	if n := tag.Num(err); n != want {
		t.Errorf("%s%v: error %d (%v), want %d", call, args, n, err, want)
	}
}

// of answers the map of rows; the first one's length is taken for all.
func of(rows ...string) Map {
	return Map{W: len(rows[0]), H: len(rows), Cells: strings.Join(rows, "")}
}

// open answers a map that has a charger in one cell, and is open elsewhere.
func open(w, h, at int) Map {
	return Map{W: w, H: h, Cells: strings.Repeat(".", at) + "C" + strings.Repeat(".", w*h-at-1)}
}

// sign answers the sign in a row at a place, from the map's text alone; a wall where there is none.
func sign(m Map, row, place int) byte {
	if row < 0 || row >= m.H || place < 0 || place >= m.W {
		return '#'
	}
	return m.Cells[row*m.W+place]
}

// mayBe tells whether a map is right, from the chapter's words: each open cell is asked whether one comes from it to each
// other one, by spreading from row to row till nothing comes to it any more.
func mayBe(m Map) bool {
	if m.W < 1 || m.W > 8 || m.H < 1 || m.H > 8 || len(m.Cells) != m.W*m.H {
		return false
	}
	charger := false
	for _, b := range []byte(m.Cells) {
		if b != '#' && b != '.' && b != 'C' && b != 'P' {
			return false
		}
		charger = charger || b == 'C'
	}
	for from := range m.W * m.H {
		if m.Cells[from] != '#' && !reachesAll(m, from) {
			return false
		}
	}
	return charger
}

// reachesAll tells whether from a cell one comes to each open one.
func reachesAll(m Map, from int) bool {
	var reached [10][10]bool // a row and a place more on each side, where nothing is
	reached[from/m.W+1][from%m.W+1] = true
	for again := true; again; {
		again = false
		for r := 1; r <= m.H; r++ {
			for p := 1; p <= m.W; p++ {
				next := reached[r-1][p] || reached[r+1][p] || reached[r][p-1] || reached[r][p+1]
				if next && !reached[r][p] && sign(m, r-1, p-1) != '#' {
					reached[r][p], again = true, true
				}
			}
		}
	}
	for c := range m.W * m.H {
		if m.Cells[c] != '#' && !reached[c/m.W+1][c%m.W+1] {
			return false
		}
	}
	return true
}

// neighbours answers a cell's open neighbours: of all cells those that are one row or one place off, not both.
func neighbours(m Map, c int) (near []int) {
	for n := range m.W * m.H {
		down, right := n/m.W-c/m.W, n%m.W-c%m.W
		if down*down+right*right == 1 && m.Cells[n] != '#' {
			near = append(near, n)
		}
	}
	return near
}

// holds holds all calls of a map against the chapter's words, at each cell and beyond, at each sign and at bytes that are none.
func holds(t *testing.T, m Map) {
	t.Helper()
	right := mayBe(m)
	if got := Right(m); got != right {
		t.Fatalf("Right(%v): %v, want %v", m, got, right)
	}
	if !right {
		isNone(t, m)
		return
	}
	for c := range m.W * m.H {
		there, near := m.Cells[c] != '#', []int(nil)
		if there {
			near = neighbours(m, c)
		}
		if got := Open(m, c); got != there {
			t.Errorf("Open(%v, %d): %v, want %v", m, c, got, there)
		}
		if got := Near(m, c); !slices.Equal(got, near) {
			t.Errorf("Near(%v, %d): %v, want %v", m, c, got, near)
		}
	}
	for _, kind := range []byte("#.CP\n\x00cp ~\xae\xff") {
		var cells []int
		for c := range m.W * m.H {
			if sign(m, c/m.W, c%m.W) == kind {
				cells = append(cells, c)
			}
		}
		if got := Kind(m, kind); !slices.Equal(got, cells) {
			t.Errorf("Kind(%v, %q): %v, want %v", m, kind, got, cells)
		}
	}
	isRead(t, m)
}

// isNone looks that the calls of a map that isn't right answer that there is nothing.
func isNone(t *testing.T, m Map) {
	t.Helper()
	text, err := Lay(m)
	if text != "" {
		t.Errorf("Lay(%v): %q beside an error", m, text)
	}
	wants(t, err, 1, "Lay", m)
	for c := -2; c < len(m.Cells)+2 && c < 90; c++ {
		if Open(m, c) || len(Near(m, c)) > 0 {
			t.Errorf("%v isn't right: the cell %d is open %v, beside %v", m, c, Open(m, c), Near(m, c))
		}
	}
	for _, kind := range []byte("#.CP\x00") {
		if got := Kind(m, kind); len(got) > 0 {
			t.Errorf("%v isn't right: Kind of %q: %v", m, kind, got)
		}
	}
}

// isRead looks that a right map's text is its rows, each with a line end, and is read as it was laid.
func isRead(t *testing.T, m Map) {
	t.Helper()
	want := ""
	for row := range m.H {
		for place := range m.W {
			want += string([]byte{sign(m, row, place)})
		}
		want += "\n"
	}
	text, err := Lay(m)
	if text != want || err != nil {
		t.Errorf("Lay(%v): %q, %v, want %q", m, text, err, want)
	}
	if got, err := Parse(want); got != m || err != nil {
		t.Errorf("Parse(%q): %v, %v, want %v", want, got, err, m)
	}
}

// reads holds Parse of any text against the chapter's words.
func reads(t *testing.T, text string) {
	t.Helper()
	rows := strings.Split(text, "\n")
	last := rows[len(rows)-1]
	rows = rows[:len(rows)-1]
	fits := last == "" && len(rows) > 0
	for _, row := range rows {
		fits = fits && len(row) == len(rows[0])
	}
	got, err := Parse(text)
	if !fits || !mayBe(of(rows...)) {
		wants(t, err, 2, "Parse", text)
		if got != (Map{}) {
			t.Errorf("Parse(%q): %v beside an error", text, got)
		}
		return
	}
	if got != of(rows...) || err != nil {
		t.Errorf("Parse(%q): %v, %v, want %v", text, got, err, of(rows...))
	}
	if again, err := Lay(got); again != text || err != nil {
		t.Errorf("Lay of what %q is read as: %q, %v", text, again, err)
	}
}

// The chapter's example, and the first one of the whole.
func TestExample(t *testing.T) {
	m, err := Parse(".C\n")
	if m != (Map{W: 2, H: 1, Cells: ".C"}) || err != nil {
		t.Fatalf("Parse of a row .C: %v, %v", m, err)
	}
	if text, err := Lay(m); text != ".C\n" || err != nil {
		t.Errorf("Lay: %q, %v", text, err)
	}
	if !Right(m) || !Open(m, 0) || !Open(m, 1) || Open(m, 2) || Open(m, -1) {
		t.Errorf("two cells, both open: right %v, open %v %v, beyond %v %v", Right(m), Open(m, 0), Open(m, 1), Open(m, 2), Open(m, -1))
	}
	if l, k := Near(m, 0), Near(m, 1); !slices.Equal(l, []int{1}) || !slices.Equal(k, []int{0}) {
		t.Errorf("each is the other's neighbour: %v, %v", l, k)
	}
	if l, k := Kind(m, '.'), Kind(m, 'C'); !slices.Equal(l, []int{0}) || !slices.Equal(k, []int{1}) {
		t.Errorf("Kind of . and C: %v, %v", l, k)
	}
}

// 14.1, 14.2: a map written out, each answer by hand.
func TestOneMap(t *testing.T) {
	m, err := Parse("C.#P\n#..#\nP#.C\n")
	if err == nil || m != (Map{}) {
		t.Errorf("the bay above on the right can't be reached: %v, %v", m, err)
	}
	m, err = Parse("C..P\n#.##\nP..C\n")
	if m != (Map{W: 4, H: 3, Cells: "C..P#.##P..C"}) || err != nil {
		t.Fatalf("%v, %v", m, err)
	}
	near := [][]int{{1}, {0, 2, 5}, {1, 3}, {2}, nil, {1, 9}, nil, nil, {9}, {5, 8, 10}, {9, 11}, {10}}
	for c, want := range near {
		if got := Near(m, c); !slices.Equal(got, want) || Open(m, c) != (want != nil) {
			t.Errorf("the cell %d: open %v, beside %v, want %v", c, Open(m, c), got, want)
		}
	}
	for kind, want := range map[byte][]int{'C': {0, 11}, 'P': {3, 8}, '#': {4, 6, 7}, '.': {1, 2, 5, 9, 10}, 'x': nil, 0: nil} {
		if got := Kind(m, kind); !slices.Equal(got, want) {
			t.Errorf("Kind of %q: %v, want %v", kind, got, want)
		}
	}
	holds(t, m)
}

// 14.1, 14.2, 14.3: all maps of few cells, of the four signs and one that there isn't.
func TestAllLittleMaps(t *testing.T) {
	right := 0
	for w := 1; w <= 6; w++ {
		for h := 1; w*h <= 6; h++ {
			cells := make([]byte, w*h)
			all := 1
			for range cells {
				all *= 5
			}
			for n := range all {
				for i, left := 0, n; i < len(cells); i, left = i+1, left/5 {
					cells[i] = "#.CPx"[left%5]
				}
				m := Map{W: w, H: h, Cells: string(cells)}
				if holds(t, m); mayBe(m) {
					right++
				}
			}
		}
		if t.Failed() {
			return
		}
	}
	if right < 5000 {
		t.Errorf("of all these maps %d are right: too few to tell", right)
	}
}

// 14.1, 14.2, 14.3: maps of all sizes, open, and with walls.
func TestAllSizes(t *testing.T) {
	next, right := numbers(1), 0
	for w := 1; w <= 8; w++ {
		for h := 1; h <= 8; h++ {
			for at := range w * h {
				holds(t, open(w, h, at))
			}
			for range 60 {
				m := wild(next, w, h)
				if holds(t, m); mayBe(m) {
					right++
				}
			}
		}
	}
	if right < 500 {
		t.Errorf("%d of the wild maps are right: too few to tell", right)
	}
}

// wild answers a map of any signs; more or fewer of them are walls.
func wild(next func() int, w, h int) Map {
	walls, cells := next()%12, make([]byte, w*h)
	for i := range cells {
		cells[i] = "..CP"[next()%4]
		if next()%20 < walls {
			cells[i] = '#'
		}
	}
	return Map{W: w, H: h, Cells: string(cells)}
}

// 14.1: maps with one way, from end to end: they hang on each of its cells but the ends.
func TestWaysThatHangOnOneCell(t *testing.T) {
	maps := []Map{
		of("C..", "##.", "...", ".##", "..P"),
		of("C.......", "#######.", "........", ".#######", "........", "#######.", "........", ".######P"),
		of("C#...#..", ".#.#.#.#", ".#.#.#.#", ".#.#.#.#", ".#.#.#.#", ".#.#.#.#", ".#.#.#.#", "...#...P"),
		of("........"), of("PPPPPPPC"), of("C"), of("C."), of("C", "P", ".", "."),
		of("C.#.P", "..#..", ".....", "..#..", "P.#.C"),
	}
	for _, m := range maps {
		holds(t, m)
		for c := range len(m.Cells) {
			for _, b := range []byte("#.CP") {
				other := m
				other.Cells = m.Cells[:c] + string([]byte{b}) + m.Cells[c+1:]
				holds(t, other)
			}
		}
	}
	between := of("C.#..", "..#..", "..P..", "..#..", "..#..")
	holds(t, between)
	if !Right(between) {
		t.Errorf("the parts hang together by a bay, %v", between)
	}
	between.Cells = strings.Replace(between.Cells, "P", "#", 1)
	if Right(between) {
		t.Errorf("the right part can't be reached, %v", between)
	}
}

// 14.1, 14.2: a row's last cell and the next one's first follow each other in the text, but are no neighbours.
func TestRowsEnds(t *testing.T) {
	for w := 2; w <= 8; w++ {
		m := open(w, 8, w)
		for row := 1; row < 8; row++ {
			last, first := row*w-1, row*w
			if slices.Contains(Near(m, last), first) || slices.Contains(Near(m, first), last) {
				t.Errorf("%d wide: the cells %d and %d are no neighbours", w, last, first)
			}
		}
		// The corners' neighbours: two each, but where there is one row or column.
		for _, c := range []int{0, w - 1, 7 * w, 8*w - 1} {
			if got := Near(m, c); len(got) != 2 {
				t.Errorf("%d wide: the corner %d has the neighbours %v", w, c, got)
			}
		}
	}
	for w := 3; w <= 8; w++ {
		between := strings.Repeat("#", w-2)
		apart := of("C"+between+".", "."+between+"#") // only by the text the last of the row would be reached
		if Right(apart) {
			t.Errorf("the row's last cell can't be reached, %v", apart)
		}
		holds(t, apart)
		holds(t, of("."+between+"#", "C"+between+"."))
		holds(t, of("#"+between+"C", "."+between+"#"))
	}
	holds(t, of("##C", "...", "C##"))
	holds(t, of("#C", ".#"))
	holds(t, of("C#", "#."))
}

// 14.1: what hangs together only by a corner isn't joined; a wall isn't gone over.
func TestCorners(t *testing.T) {
	for _, m := range []Map{of("C#", "#C"), of("#C", "C#"), of("C#."), of("C", "#", "."), of("C.#", "..#", "##P")} {
		if Right(m) {
			t.Errorf("%v isn't right", m)
		}
		holds(t, m)
	}
}

// 14.1: a charger is asked for, on a map of any size; a bay and an open cell are none.
func TestNoCharger(t *testing.T) {
	for w := 1; w <= 8; w++ {
		for h := 1; h <= 8; h++ {
			for _, b := range []string{".", "P", "#", "c"} {
				m := Map{W: w, H: h, Cells: strings.Repeat(b, w*h)}
				if Right(m) {
					t.Errorf("%v has no charger", m)
				}
				holds(t, m)
			}
			m := Map{W: w, H: h, Cells: strings.Repeat("C", w*h)}
			if !Right(m) {
				t.Errorf("%v is right: nothing but chargers", m)
			}
			holds(t, m)
			m.Cells = "C" + strings.Repeat("#", w*h-1)
			if !Right(m) {
				t.Errorf("%v is right: one charger alone", m)
			}
			holds(t, m)
		}
	}
}

// 14.1, 14.2: sides that may not be, with as many cells as they say where that can be, and others.
func TestWrongSides(t *testing.T) {
	sides := append([]int{0, 1, 2, 7}, odd...)
	cells := []string{"", "C", "C.", "C.......", "C........", open(8, 8, 0).Cells, open(9, 9, 0).Cells, open(9, 8, 3).Cells, strings.Repeat("C", 256)}
	for _, w := range sides {
		for _, h := range sides {
			for _, text := range cells {
				holds(t, Map{W: w, H: h, Cells: text})
			}
			if many := w * h; many > 0 && many < 70000 {
				holds(t, Map{W: w, H: h, Cells: strings.Repeat("C", many)})
			}
		}
	}
	// Both are below 0, and their product is right; it runs over, and is right then.
	for _, m := range []Map{
		{-1, -1, "C"}, {-2, -4, "C......."}, {1 << 32, 1 << 32, ""}, {1<<32 + 1, 1<<32 + 1, "C"}, {1 << 62, 4, ""},
		{1<<62 + 2, 4, "C......."}, {math.MinInt, 2, ""}, {math.MaxInt, math.MaxInt, "C"}, {0, 0, ""}, {0, 5, ""}, {5, 0, ""},
	} {
		if Right(m) {
			t.Errorf("%v isn't right", m)
		}
		holds(t, m)
	}
}

// 14.1, 14.2: cells too few and too many, and signs that there aren't, at each place.
func TestWrongCells(t *testing.T) {
	for w := 1; w <= 8; w++ {
		for h := 1; h <= 8; h++ {
			for many := range 80 {
				holds(t, Map{W: w, H: h, Cells: "C" + strings.Repeat(".", many)})
			}
			holds(t, Map{W: w, H: h})
		}
	}
	m := of("C..P", "#..#", "P..C")
	for c := range len(m.Cells) {
		for b := range 256 {
			other := m
			other.Cells = m.Cells[:c] + string([]byte{byte(b)}) + m.Cells[c+1:]
			if Right(other) != strings.Contains("#.CP", string([]byte{byte(b)})) && b != '#' {
				t.Errorf("Right(%v): %v", other, Right(other))
			}
			holds(t, other)
		}
	}
	for _, cells := range []string{"C\u00b7", "C\ufffd", "\u0421.", "C.\n", "C\n", "C.\x00", "\xff\xfeC", "C.x."} {
		holds(t, Map{W: len(cells), H: 1, Cells: cells})
		holds(t, Map{W: 1, H: len(cells), Cells: cells})
		holds(t, Map{W: len([]rune(cells)), H: 1, Cells: cells})
	}
}

// 14.2: cells that there aren't have no neighbours and aren't open; kinds that there aren't have no cells.
func TestWrongCellsNumbers(t *testing.T) {
	for _, m := range []Map{of("C"), of(".C"), of("C..", "#.P"), open(8, 8, 63), open(8, 1, 0), open(1, 8, 0), {}} {
		many := len(m.Cells)
		for c := -300; c <= 300; c++ {
			if (c < 0 || c >= many) && (Open(m, c) || len(Near(m, c)) > 0) {
				t.Errorf("%v has no cell %d: open %v, beside %v", m, c, Open(m, c), Near(m, c))
			}
		}
		for _, c := range odd {
			if (c < 0 || c >= many) && (Open(m, c) || len(Near(m, c)) > 0) {
				t.Errorf("%v has no cell %d: open %v, beside %v", m, c, Open(m, c), Near(m, c))
			}
		}
		for b := range 256 {
			if got := Kind(m, byte(b)); !strings.Contains("#.CP", string([]byte{byte(b)})) && len(got) > 0 {
				t.Errorf("%v: Kind of %q: %v", m, byte(b), got)
			}
		}
	}
}

// 14.1: texts that are no right map.
func TestWrongTexts(t *testing.T) {
	wide, high := strings.Repeat(".", 8), strings.Repeat("C.\n", 7)
	for _, text := range []string{
		"", "\n", "\n\n", "C", ".C", "C\n\n", "\nC\n", "C\n\nC\n", "C\r\n", "C.\r\n..\r\n", "C\n.", "C.\n..", "C.\n.\n", "C\n..\n", "C.\n...\n", "..\n",
		"C" + wide + "\n", wide + "C\n", high + "C.\n" + "C.\n", high + "C.\nC.", high + "C.\n\n", "C x\n", "C,\n", " C\n", "C \n", "c\n", "C.\x00\n", "C\x00.\n", "\xef\xbb\xbfC\n",
		"C\xff\n", "\xc3\x28C\n", "C\u2028C\n", "C\v.\n", "C\f.\n", "C\x85.\n", "C#.\n", "C\n#\n.\n", "C#\n#.\n", "PP\n..\n", "##\n##\n", "C.\n.C\nP", "C.\n..\n ",
	} {
		if m, err := Parse(text); err == nil {
			t.Errorf("Parse(%q): %v", text, m)
		}
		reads(t, text)
	}
	for _, text := range []string{"C\n", "C" + wide[1:] + "\n", high + "C.\n", strings.Repeat("CCCCCCCC\n", 8), strings.Repeat("P\n", 7) + "C\n"} {
		if m, err := Parse(text); err != nil {
			t.Errorf("Parse(%q): %v, %v", text, m, err)
		}
		reads(t, text)
	}
}

// 14.1: a byte is changed, put in or left out at each place of texts that are right maps; rows are of other lengths.
func TestTextsChanged(t *testing.T) {
	for _, text := range []string{"C\n", ".C\n", "C\nP\n", "C.\n#P\n", "C..P\n#.##\nP..C\n", "........\n.######C\n.#....#.\n.#.##.#.\n...PP...\n########\n########\n########\n"} {
		reads(t, text)
		for at := range len(text) {
			reads(t, text[:at]+text[at+1:])
			reads(t, text[:at])
			for b := range 256 {
				in := string([]byte{byte(b)})
				reads(t, text[:at]+in+text[at+1:])
				reads(t, text[:at]+in+text[at:])
				reads(t, text+in)
			}
		}
	}
}

// 14.1: rows of any lengths, from none to more than may be, joined as they come.
func TestTextsOfRows(t *testing.T) {
	next := numbers(7)
	for range 20000 {
		wide, text := next()%10, ""
		for range next() % 11 {
			if next()%20 == 0 {
				wide = next() % 10
			}
			for range wide {
				text += string(".CPC..CP#x"[min(next()%80, 9)])
			}
			text += "\n"
		}
		reads(t, text)
	}
}

// 14.1: long texts are refused, and soon.
func TestLongTexts(t *testing.T) {
	for _, text := range []string{strings.Repeat("C\n", 1<<24), strings.Repeat("C", 1<<24) + "\n", strings.Repeat("\n", 1<<24), strings.Repeat("C.\n..\n", 12), strings.Repeat("CCCCCCCC\n", 9)} {
		m, err := Parse(text)
		if m != (Map{}) {
			t.Errorf("a text of %d bytes: %d by %d beside an error", len(text), m.W, m.H)
		}
		wants(t, err, 2, "Parse of a long text")
	}
	m := Map{W: 8, H: 8, Cells: strings.Repeat("C", 1<<24)}
	if Right(m) || Open(m, 0) || len(Near(m, 0)) > 0 || len(Kind(m, 'C')) > 0 {
		t.Errorf("a map of too many cells is none")
	}
}

// 14.3: of neighbours each is the other's, on each right map of many; each is open, and none is its own.
func TestNeighboursEachOthers(t *testing.T) {
	next, right := numbers(3), 0
	for range 4000 {
		m := wild(next, next()%8+1, next()%8+1)
		if !Right(m) {
			continue
		}
		right++
		for c := range len(m.Cells) {
			near := Near(m, c)
			for i, n := range near {
				if !slices.Contains(Near(m, n), c) || !Open(m, n) || !Open(m, c) || n == c || i > 0 && near[i-1] >= n {
					t.Errorf("%v: %d has the neighbours %v, %d the neighbours %v", m, c, near, n, Near(m, n))
				}
			}
		}
	}
	if right < 500 {
		t.Errorf("%d maps are right: too few to tell", right)
	}
}

// Lists that were answered are written to, up to their room: no later answer changes; what was handed in is as it was.
func TestNothingShared(t *testing.T) {
	cells := []byte("C..P#.##P..C")
	m := Map{W: 4, H: 3, Cells: string(cells)}
	var lists [][]int
	for range 3 {
		for c := range len(m.Cells) {
			lists = append(lists, Near(m, c))
		}
		for _, kind := range []byte("#.CP") {
			lists = append(lists, Kind(m, kind))
		}
		for i, l := range lists {
			l = l[:cap(l)]
			for k := range l {
				l[k] = -1000 - i
			}
		}
		for i, l := range lists {
			for _, n := range l[:cap(l)] {
				if n != -1000-i {
					t.Fatalf("the list %d shares room: %d", i, n)
				}
			}
		}
		holds(t, m)
	}
	if m != (Map{W: 4, H: 3, Cells: string(cells)}) {
		t.Errorf("the map was changed: %v", m)
	}
	text, _ := Lay(m)
	read, _ := Parse(text)
	if again, _ := Lay(m); again != text || read != m {
		t.Errorf("%v is laid as %q, and as %q then", m, text, again)
	}
}

// Errors have this layer's tag around them.
func TestTags(t *testing.T) {
	_, parsed := Parse("x")
	_, laid := Lay(Map{})
	for _, err := range []error{parsed, laid} {
		if tags := tag.Tags(err); !slices.Equal(tags, []string{"grid"}) {
			t.Errorf("the tags of %v: %v", err, tags)
		}
	}
}
