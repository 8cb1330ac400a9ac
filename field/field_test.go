package field

import (
	"cmp"
	"math"
	"slices"
	"strings"
	"testing"

	"dynamo/grid"
	"dynamo/tag"
)

// odd are numbers that no cell has: cut to a byte or turned round, some would be one.
var odd = []int{
	math.MinInt, math.MinInt + 1, -1 << 62, -1 << 32, -1<<32 + 1, -1 << 31, -257, -256, -255, -65, -64, -63, -9, -8, -7, -2, -1,
	64, 65, 72, 127, 128, 255, 256, 257, 1 << 16, 1<<31 - 1, 1 << 31, 1 << 32, 1<<32 + 1, 1 << 62, math.MaxInt - 1, math.MaxInt,
}

// snake is the longest row that was found of cells on 8 by 8, each a neighbour of those ahead and behind alone.
var snake = []int{
	21, 29, 30, 31, 23, 15, 14, 6, 5, 4, 12, 11, 10, 2, 1, 0, 8, 16, 24, 25, 26,
	27, 35, 36, 44, 45, 46, 47, 55, 63, 62, 61, 60, 59, 51, 50, 42, 41, 40, 48, 56, 57,
}

// numbers answers a function that makes numbers from 0 on, always the same ones of one seed.
func numbers(seed uint64) func() int {
	return func() int {
		seed = seed*6364136223846793005 + 1442695040888963407
		return int(seed >> 33)
	}
}

// of answers the map of rows; the first one's length is taken for all.
func of(rows ...string) grid.Map {
	return grid.Map{W: len(rows[0]), H: len(rows), Cells: strings.Join(rows, "")}
}

// free answers a map without walls.
func free(w, h int) grid.Map {
	return grid.Map{W: w, H: h, Cells: "C" + strings.Repeat(".", w*h-1)}
}

// beside answers a cell's open neighbours: of all cells those that are one row or one place off, not both.
func beside(m grid.Map, c int) (near []int) {
	for n := range m.W * m.H {
		down, right := n/m.W-c/m.W, n%m.W-c%m.W
		if down*down+right*right == 1 && m.Cells[n] != '#' {
			near = append(near, n)
		}
	}
	return near
}

// isOpen tells whether there is such a cell, and no wall.
func isOpen(m grid.Map, c int) bool {
	return c >= 0 && c < len(m.Cells) && m.Cells[c] != '#'
}

// opens answers a map's open cells.
func opens(m grid.Map) (cells []int) {
	for c := range len(m.Cells) {
		if isOpen(m, c) {
			cells = append(cells, c)
		}
	}
	return cells
}

// costs reckons a field otherwise: sources cost 0, and each cell a step more than its cheapest neighbour, over and over
// again, till no cost changes any more.
func costs(m grid.Map, sources []int, step int) []int {
	f := slices.Repeat([]int{-1}, len(m.Cells))
	for _, c := range sources {
		if isOpen(m, c) {
			f[c] = 0
		}
	}
	for again := true; again; {
		again = false
		for _, c := range opens(m) {
			for _, n := range beside(m, c) {
				if f[n] >= 0 && (f[c] < 0 || f[c] > f[n]+step) {
					f[c], again = f[n]+step, true
				}
			}
		}
	}
	return f
}

// lower reckons Down otherwise, of a right map: the cheaper neighbours, put in order by the library.
func lower(m grid.Map, f []int, c int) (cells []int) {
	if len(f) != len(m.Cells) || !isOpen(m, c) || f[c] < 0 {
		return nil
	}
	for _, n := range beside(m, c) {
		if f[n] >= 0 && f[n] < f[c] {
			cells = append(cells, n)
		}
	}
	slices.SortFunc(cells, func(a, b int) int { return cmp.Or(cmp.Compare(f[a], f[b]), cmp.Compare(a, b)) })
	return cells
}

// walk reckons Way otherwise; it isn't told where to end.
func walk(m grid.Map, f []int, c int) []int {
	l := lower(m, f, c)
	if len(l) == 0 {
		return nil
	}
	return append([]int{l[0]}, walk(m, f, l[0])...)
}

// holdsCosts holds a field of a right map against the same one, reckoned otherwise, and against what holds of it; it answers it.
func holdsCosts(t *testing.T, m grid.Map, sources []int, step int) []int {
	t.Helper()
	want := costs(m, sources, step)
	f, err := Costs(m, sources, step)
	if err != nil || !slices.Equal(f, want) {
		t.Fatalf("Costs(%v, %v, %d): %v, %v, want %v", m, sources, step, f, err, want)
	}
	if slices.ContainsFunc(sources, func(c int) bool { return isOpen(m, c) }) {
		leads(t, m, sources, step, f)
	}
	return f
}

// leads holds a field that has a source against 16.3.
func leads(t *testing.T, m grid.Map, sources []int, step int, f []int) {
	t.Helper()
	for _, c := range opens(m) {
		nearer := false
		for _, n := range beside(m, c) {
			if f[n] > f[c]+step || f[n] < f[c]-step {
				t.Fatalf("%v of %v: the neighbours %d and %d cost %d and %d, the step is %d", m, sources, c, n, f[c], f[n], step)
			}
			nearer = nearer || f[n] == f[c]-step
		}
		source := slices.Contains(sources, c)
		if source && f[c] != 0 || !source && !nearer {
			t.Fatalf("%v of %v: the cell %d costs %d, and a neighbour is a step nearer: %v", m, sources, c, f[c], nearer)
		}
		way := Way(m, f, c)
		if len(way)*step != f[c] {
			t.Fatalf("%v of %v: the cell %d costs %d, the step is %d, its way is %v", m, sources, c, f[c], step, way)
		}
		if end := append([]int{c}, way...)[len(way)]; !slices.Contains(sources, end) {
			t.Fatalf("%v of %v: the way from %d ends at %d", m, sources, c, end)
		}
	}
}

// holdsWays holds Down and Way of a right map and any list, at each cell and beyond, against the same, reckoned otherwise.
func holdsWays(t *testing.T, m grid.Map, f []int) {
	t.Helper()
	was := slices.Clone(f)
	for c := -2; c < len(m.Cells)+3; c++ {
		if got, want := Down(m, f, c), lower(m, f, c); !slices.Equal(got, want) {
			t.Fatalf("Down(%v, %v, %d): %v, want %v", m, f, c, got, want)
		}
		if got, want := Way(m, f, c), walk(m, f, c); !slices.Equal(got, want) || len(got) > 64 {
			t.Fatalf("Way(%v, %v, %d): %v, want %v", m, f, c, got, want)
		}
	}
	if !slices.Equal(f, was) {
		t.Fatalf("%v: the list %v became %v", m, was, f)
	}
}

// holds holds all calls of a field against the same, reckoned otherwise.
func holds(t *testing.T, m grid.Map, sources []int, step int) {
	t.Helper()
	holdsWays(t, m, holdsCosts(t, m, sources, step))
}

// refused looks that Costs answers ErrArg, and nothing beside it.
func refused(t *testing.T, m grid.Map, sources []int, step int) {
	t.Helper()
	f, err := Costs(m, sources, step)
	if len(f) > 0 || tag.Num(err) != 1 {
		t.Errorf("Costs(%v, %v, %d): %v, error %d (%v), want 1", m, sources, step, f, tag.Num(err), err)
	}
}

// nothing looks that Down and Way answer none.
func nothing(t *testing.T, m grid.Map, f []int, c int) {
	t.Helper()
	if down, way := Down(m, f, c), Way(m, f, c); len(down) > 0 || len(way) > 0 {
		t.Errorf("%v, %v, the cell %d: Down %v, Way %v", m, f, c, down, way)
	}
}

// wild answers a right map of any signs: what doesn't hang together with one of its chargers is walled up.
func wild(next func() int, w, h int) grid.Map {
	walls, cells := next()%10, make([]byte, w*h)
	for i := range cells {
		cells[i] = "..CP"[next()%4]
		if next()%20 < walls {
			cells[i] = '#'
		}
	}
	at := next() % len(cells)
	cells[at] = 'C'
	m := grid.Map{W: w, H: h, Cells: string(cells)}
	for c, cost := range costs(m, []int{at}, 1) {
		if cost < 0 {
			cells[c] = '#'
		}
	}
	m.Cells = string(cells)
	return m
}

// The chapter's example.
func TestExample(t *testing.T) {
	m := of(".C")
	f, err := Costs(m, []int{1}, 2)
	if !slices.Equal(f, []int{2, 0}) || err != nil {
		t.Fatalf("Costs of .C, the source 1, the step 2: %v, %v", f, err)
	}
	if down, way := Down(m, f, 0), Way(m, f, 0); !slices.Equal(down, []int{1}) || !slices.Equal(way, []int{1}) {
		t.Errorf("from 0: Down %v, Way %v", down, way)
	}
	nothing(t, m, f, 1)
	holds(t, m, []int{1}, 2)
}

// 16.1, 16.2: a map with walls, each answer by hand.
func TestByHand(t *testing.T) {
	m := of("C...", ".##.", "P#..", "...C")
	for _, c := range []struct {
		sources []int
		step    int
		want    []int
	}{
		{[]int{0}, 1, []int{0, 1, 2, 3, 1, -1, -1, 4, 2, -1, 6, 5, 3, 4, 5, 6}},
		{[]int{15}, 1, []int{6, 5, 4, 3, 5, -1, -1, 2, 4, -1, 2, 1, 3, 2, 1, 0}},
		{[]int{0, 15}, 3, []int{0, 3, 6, 9, 3, -1, -1, 6, 6, -1, 6, 3, 9, 6, 3, 0}},
		{[]int{5, 3, 12}, 100, []int{300, 200, 100, 0, 200, -1, -1, 100, 100, -1, 300, 200, 0, 100, 200, 300}},
		{nil, 1, slices.Repeat([]int{-1}, 16)},
	} {
		if f, err := Costs(m, c.sources, c.step); err != nil || !slices.Equal(f, c.want) {
			t.Errorf("Costs of %v, a step %d: %v, %v, want %v", c.sources, c.step, f, err, c.want)
		}
	}
	f, _ := Costs(m, []int{0}, 1)
	for c, want := range [][]int{nil, {0}, {1}, {2}, {0}, nil, nil, {3}, {4}, nil, {11, 14}, {7}, {8}, {12}, {13}, {11, 14}} {
		if got := Down(m, f, c); !slices.Equal(got, want) {
			t.Errorf("Down from %d: %v, want %v", c, got, want)
		}
	}
	for c, want := range map[int][]int{15: {11, 7, 3, 2, 1, 0}, 10: {11, 7, 3, 2, 1, 0}, 14: {13, 12, 8, 4, 0}, 4: {0}, 0: nil, 5: nil} {
		if got := Way(m, f, c); !slices.Equal(got, want) {
			t.Errorf("the way from %d: %v, want %v", c, got, want)
		}
	}
}

// 16.1, 16.2, 16.3: all right maps of up to eight cells, all sources of up to six, one and two sources of more.
func TestAllLittleMaps(t *testing.T) {
	for w := 1; w <= 8; w++ {
		for h := 1; w*h <= 8; h++ {
			for walls := range 1 << (w * h) {
				m := grid.Map{W: w, H: h}
				for c := range w * h {
					m.Cells += []string{"C", "#"}[walls>>c&1]
				}
				if grid.Right(m) {
					allSources(t, m)
				}
			}
		}
	}
}

// allSources holds the fields of all sets of cells, or of all single ones and pairs, walls among them.
func allSources(t *testing.T, m grid.Map) {
	t.Helper()
	for set := range 1 << len(m.Cells) {
		var sources []int
		for c := range len(m.Cells) {
			if set>>c&1 == 1 {
				sources = append(sources, c)
			}
		}
		if len(m.Cells) <= 6 || len(sources) <= 2 {
			holds(t, m, sources, 1+set%3)
		}
	}
}

// 16.1, 16.2, 16.3: maps of all sizes, with and without walls, one source and several, all steps.
func TestAllSizes(t *testing.T) {
	next := numbers(1)
	for w := 1; w <= 8; w++ {
		for h := 1; h <= 8; h++ {
			holds(t, free(w, h), []int{next() % (w * h)}, 1+next()%100)
			for range 4 {
				m := wild(next, w, h)
				if !grid.Right(m) {
					t.Fatalf("%v isn't right", m)
				}
				sources := make([]int, next()%7)
				for i := range sources {
					sources[i] = next()%(w*h+4) - 2
				}
				holds(t, m, sources, 1+next()%100)
				holdsCosts(t, m, []int{next() % (w * h)}, 1+next()%100)
			}
		}
	}
}

// 16.1, 16.3: sources that are walls, or no cells at all, are none; it doesn't matter how often one is named, and where.
func TestSources(t *testing.T) {
	m := of("C.#.", "#...", "..P#")
	none := slices.Repeat([]int{-1}, 12)
	for _, sources := range [][]int{nil, {}, {2}, {4}, {11}, {2, 4, 11}, {-1}, {12}, {-1, 12, 2}, odd, {2, 2, 2}} {
		if f, err := Costs(m, sources, 5); err != nil || !slices.Equal(f, none) {
			t.Errorf("of %v no source is open: %v, %v", sources, f, err)
		}
		holds(t, m, sources, 5)
	}
	for _, c := range odd {
		holds(t, m, []int{c}, 1)
		holds(t, m, []int{c, 6}, 1)
		holds(t, m, []int{6, c}, 1)
	}
	want := costs(m, []int{0, 8}, 7)
	for _, sources := range [][]int{{8, 0}, {0, 8, 0}, {8, 8, 0, 0, 8}, {-1, 0, 2, 8, 12}, append(slices.Repeat([]int{0}, 63), 8), append(slices.Clone(odd), 0, 8)} {
		if f, err := Costs(m, sources, 7); err != nil || !slices.Equal(f, want) {
			t.Errorf("of %v the sources are 0 and 8: %v, %v, want %v", sources, f, err, want)
		}
	}
}

// 16.1: 64 sources may be, 65 may not, whatever they are.
func TestManySources(t *testing.T) {
	m, all := free(8, 8), make([]int, 64)
	for c := range all {
		all[c] = c
	}
	for many := range 65 {
		holdsCosts(t, m, all[:many], 3)
		holdsCosts(t, of("C..", "#.P"), all[:many], 3)
	}
	if f, err := Costs(m, all, 3); err != nil || !slices.Equal(f, make([]int, 64)) {
		t.Errorf("all cells are sources: %v, %v", f, err)
	}
	for _, c := range append(slices.Clone(odd), 0, 1, 63) {
		refused(t, m, append(slices.Clone(all), c), 3)
		refused(t, m, slices.Repeat([]int{c}, 65), 1)
		refused(t, of("C"), slices.Repeat([]int{c}, 300), 1)
		if _, err := Costs(m, slices.Repeat([]int{c}, 64), 1); err != nil {
			t.Errorf("64 times %d: %v", c, err)
		}
	}
	refused(t, m, make([]int, 1<<20), 1)
}

// 16.1, 16.3: all steps that may be, and others.
func TestSteps(t *testing.T) {
	m := of("C....", "####.", ".....", ".####", "....P")
	for step := -300; step <= 600; step++ {
		if step < 1 || step > 100 {
			refused(t, m, []int{0}, step)
			refused(t, m, nil, step)
			continue
		}
		f := holdsCosts(t, m, []int{0}, step)
		if f[24] != 16*step {
			t.Errorf("the step %d: the last of the cells behind each other costs %d", step, f[24])
		}
	}
	for _, step := range odd {
		if step < 1 || step > 100 {
			refused(t, m, []int{0}, step)
		}
	}
}

// 16.1, 16.2: maps of one cell, of one row, of one column.
func TestRowsAndColumns(t *testing.T) {
	for many := 1; many <= 8; many++ {
		for from := range many {
			for step := 1; step <= 100; step += 33 {
				for _, m := range []grid.Map{free(many, 1), free(1, many)} {
					f := holdsCosts(t, m, []int{from}, step)
					for c, cost := range f {
						if cost != max(c-from, from-c)*step {
							t.Errorf("%v, the source %d, the step %d: %v", m, from, step, f)
						}
					}
					holdsWays(t, m, f)
				}
			}
		}
	}
	one := of("C")
	if f, err := Costs(one, []int{0}, 100); err != nil || !slices.Equal(f, []int{0}) {
		t.Errorf("one cell: %v, %v", f, err)
	}
	if f, err := Costs(one, []int{1}, 100); err != nil || !slices.Equal(f, []int{-1}) {
		t.Errorf("one cell, no source: %v, %v", f, err)
	}
	for _, cost := range []int{math.MinInt, -1, 0, 1, math.MaxInt} {
		nothing(t, one, []int{cost}, 0)
	}
}

// wrong are maps that aren't right, by their cells or by their sides.
func wrong() []grid.Map {
	return []grid.Map{
		{}, of("."), of("P."), of("#"), of("####", "####"), of("C#."), of("C#", "#C"), of("C.#P", "..#."), of("c."), of("C x"), of("C.\n"), of("C........"),
		{W: 8, H: 8, Cells: strings.Repeat("#", 64)}, {W: 8, H: 8, Cells: strings.Repeat(".", 64)}, {W: 9, H: 8, Cells: "C" + strings.Repeat(".", 71)},
		{W: 2, H: 2, Cells: "C.."}, {W: 2, H: 2, Cells: "C...."}, {W: 2, H: 2}, {W: 0, H: 0, Cells: "C"}, {W: 0, H: 4, Cells: "C..."}, {W: 4, Cells: "C..."},
		{W: -2, H: -2, Cells: "C..."}, {W: 1 << 32, H: 1 << 32}, {W: 1<<62 + 1, H: 4, Cells: "C..."}, {W: math.MinInt, H: 2}, {W: 3, H: 1, Cells: "C\u00b7"},
		{W: 2, H: 1, Cells: strings.Repeat("C", 1<<20)},
	}
}

// 16.1, 16.2: maps that aren't right.
func TestWrongMaps(t *testing.T) {
	for _, m := range wrong() {
		for _, sources := range [][]int{nil, {0}, {0, 1}, {-1}, slices.Repeat([]int{0}, 65)} {
			refused(t, m, sources, 1)
			refused(t, m, sources, 100)
			refused(t, m, sources, 0)
		}
		f := make([]int, len(m.Cells))
		for c := range f {
			f[c] = c % 7
		}
		back := slices.Clone(f)
		slices.Reverse(back)
		for _, c := range append(slices.Clone(odd), 0, 1, 2, 3, 4, 5, 6, 7, 8, 63) {
			nothing(t, m, f, c)
			nothing(t, m, back, c)
			nothing(t, m, nil, c)
		}
	}
}

// 16.2: lists that aren't as long as the map.
func TestListsOfOtherLengths(t *testing.T) {
	for _, m := range []grid.Map{of("C"), of(".C"), of("C..", "#.P"), free(8, 8)} {
		many := len(m.Cells)
		for _, length := range []int{0, 1, many - 1, many, many + 1, 2 * many, 64, 65, 256 + many, 1 << 20} {
			f := make([]int, length, length+many)
			for c := range f {
				f[c] = length - c
			}
			for c := range many {
				if length != many {
					nothing(t, m, f, c)
				}
			}
			nothing(t, m, f, many)
			nothing(t, m, f, length-1)
			if length == many {
				holdsWays(t, m, f)
			}
		}
	}
}

// 16.2: from cells that there aren't, from walls, and from cells whose cost is below 0 nothing is nearer, whatever the list says.
func TestWrongCells(t *testing.T) {
	for _, m := range []grid.Map{of(".C"), of("C#.", "...", ".#P"), free(8, 8)} {
		many := len(m.Cells)
		for _, f := range [][]int{costs(m, []int{0}, 1), make([]int, many), slices.Repeat([]int{math.MaxInt}, many), slices.Repeat([]int{-1}, many)} {
			for _, c := range append(slices.Clone(odd), many, many+1, -many) {
				if c < 0 || c >= many {
					nothing(t, m, f, c)
				}
			}
		}
		for c := range many {
			for _, cost := range []int{-1, -2, -1 << 32, math.MinInt + 1, math.MinInt} {
				for _, other := range []int{math.MinInt, -3, -1, 0, 1} {
					f := slices.Repeat([]int{other}, many)
					f[c] = cost
					nothing(t, m, f, c)
				}
			}
		}
	}
	// A wall has no way, and is none's neighbour, though the list has a cost of it.
	m := of("C#.", "...", ".#P")
	f := []int{9, 0, 9, 8, 7, 8, 9, 5, 9}
	nothing(t, m, f, 1)
	nothing(t, m, f, 7)
	nothing(t, m, f, 4)
	if got := Down(m, f, 3); !slices.Equal(got, []int{4}) {
		t.Errorf("Down from 3: %v", got)
	}
	holdsWays(t, m, f)
}

// 16.2: a cell with four neighbours, and all costs of them and of it, the least and the greatest int among them.
func TestAllCostsOfNeighbours(t *testing.T) {
	m := of("#.#", ".C.", "#P#")
	values := []int{math.MinInt, -1, 0, 1, 2, math.MaxInt - 1, math.MaxInt}
	f := []int{0, 0, 0, 0, 0, 0, 0, 0, 0}
	for n := range 7 * 7 * 7 * 7 * 7 {
		left := n
		for _, c := range []int{1, 3, 4, 5, 7} {
			f[c], left = values[left%7], left/7
		}
		if got, want := Down(m, f, 4), lower(m, f, 4); !slices.Equal(got, want) {
			t.Fatalf("Down(%v, %v, 4): %v, want %v", m, f, got, want)
		}
		if got, want := Way(m, f, 4), walk(m, f, 4); !slices.Equal(got, want) {
			t.Fatalf("Way(%v, %v, 4): %v, want %v", m, f, got, want)
		}
		if n%9 == 0 {
			holdsWays(t, m, f)
		}
	}
	for _, c := range []struct{ f, want []int }{
		{[]int{0, 3, 0, 3, 4, 3, 0, 3, 0}, []int{1, 3, 5, 7}},
		{[]int{0, 3, 0, 2, 4, 1, 0, 0, 0}, []int{7, 5, 3, 1}},
		{[]int{0, 1, 0, 0, 4, 0, 0, 1, 0}, []int{3, 5, 1, 7}},
		{[]int{0, 4, 0, 5, 4, -1, 0, 3, 0}, []int{7}},
		{[]int{0, math.MinInt, 0, 0, math.MaxInt, math.MaxInt - 1, 0, math.MaxInt, 0}, []int{3, 5}},
		{[]int{0, 0, 0, 0, 0, 0, 0, 0, 0}, nil},
		{[]int{0, 0, 0, 0, -1, 0, 0, 0, 0}, nil},
		{[]int{0, math.MinInt, 0, -1, math.MaxInt, -2, 0, -1 << 62, 0}, nil},
	} {
		if got := Down(m, c.f, 4); !slices.Equal(got, c.want) {
			t.Errorf("Down of %v: %v, want %v", c.f, got, c.want)
		}
	}
}

// 16.2: wild lists, with many costs alike and with few.
func TestWildLists(t *testing.T) {
	next := numbers(3)
	for range 400 {
		m := wild(next, 1+next()%8, 1+next()%8)
		f, kinds := make([]int, len(m.Cells)), 1+next()%40
		for c := range f {
			f[c] = next()%kinds - next()%3
			if next()%15 == 0 {
				f[c] = odd[next()%len(odd)]
			}
		}
		holdsWays(t, m, f)
	}
}

// 16.2: a way takes the cheapest neighbour, however much is to be had elsewhere, of alike ones that of the least number, and
// ends where none is cheaper, a source or not.
func TestWayIsTheFirstOne(t *testing.T) {
	m := of("C..", "...", "..P")
	for _, c := range []struct {
		f    []int
		from int
		want []int
	}{
		{[]int{0, 1, 2, 1, 2, 3, 2, 3, 4}, 8, []int{5, 2, 1, 0}},
		{[]int{2, 1, 0, 3, 2, 1, 4, 3, 2}, 6, []int{3, 0, 1, 2}},
		{[]int{9, 9, 9, 9, 5, 4, 9, 3, 0}, 4, []int{7, 8}},
		{[]int{9, 9, 9, 9, 5, 3, 9, 3, 0}, 4, []int{5, 8}},
		{[]int{0, 2, 9, 9, 5, 4, 9, 9, 9}, 4, []int{1, 0}},
		{[]int{0, 4, 4, 4, 5, 2, 4, 4, 3}, 4, []int{5}},
		{[]int{7, 7, 7, 7, 7, 7, 7, 7, 7}, 4, nil},
		{[]int{math.MaxInt, math.MaxInt - 1, 1, -1, -1, 0, -1, -1, math.MinInt}, 0, []int{1, 2, 5}},
	} {
		if got := Way(m, c.f, c.from); !slices.Equal(got, c.want) {
			t.Errorf("%v, from %d: %v, want %v", c.f, c.from, got, c.want)
		}
		holdsWays(t, m, c.f)
	}
}

// 16.2, 16.3: long ways. As each cell of a way is the cheapest neighbour of the one ahead, it is a neighbour of no other cell
// ahead: no way goes over all 64 cells (a list that falls to and fro over all of them has ways that are shorter).
func TestLongWays(t *testing.T) {
	for _, back := range []bool{false, true} {
		cells := slices.Clone(snake)
		if back {
			slices.Reverse(cells)
		}
		last := cells[len(cells)-1]
		walled := []byte(strings.Repeat("#", 64))
		listed := slices.Repeat([]int{-1}, 64)
		for i, c := range cells {
			walled[c], listed[c] = 'C', len(cells)-1-i
		}
		m := grid.Map{W: 8, H: 8, Cells: string(walled)}
		f := holdsCosts(t, m, []int{last}, 100)
		if f[cells[0]] != 4100 {
			t.Errorf("the first cell costs %d", f[cells[0]])
		}
		for i, c := range cells {
			if got := Way(m, f, c); !slices.Equal(got, cells[i+1:]) {
				t.Errorf("between walls, the way from %d: %v, want %v", c, got, cells[i+1:])
			}
			if got := Way(free(8, 8), listed, c); !slices.Equal(got, cells[i+1:]) {
				t.Errorf("by the list, the way from %d: %v, want %v", c, got, cells[i+1:])
			}
		}
	}
	rows, falling := make([]int, 64), make([]int, 64) // rows: to and fro over all cells
	for c := range rows {
		rows[c], falling[c] = 63-c, 63-c
		if c/8%2 == 1 {
			rows[c] = 63 - (c/8*8 + 7 - c%8)
		}
	}
	for _, f := range [][]int{rows, falling} {
		holdsWays(t, free(8, 8), f)
		if got := Way(free(8, 8), f, 0); len(got) == 0 || len(got) > 64 {
			t.Errorf("the way from 0 by %v: %v", f, got)
		}
	}
}

// What is handed in is as it was, spare room included.
func TestAsItWas(t *testing.T) {
	m := of("C..P", ".##.", "P..C")
	room := []int{0, 11, 5, -1, 99, 3, 8, 8, 2, 7, 4, 1, 6, 10, 9, 0}
	was := slices.Clone(room)
	for to := range len(room) {
		if f, err := Costs(m, room[:to], 2); err != nil || !slices.Equal(f, costs(m, room[:to], 2)) {
			t.Errorf("Costs of %v: %v, %v", room[:to], f, err)
		}
		for c := range len(m.Cells) {
			Down(m, room[:to], c)
			Way(m, room[:to], c)
		}
		if !slices.Equal(room, was) {
			t.Fatalf("the list of %d became %v", to, room)
		}
	}
	refused(t, m, room, 0)
	if !slices.Equal(room, was) {
		t.Errorf("a refused call made %v of it", room)
	}
}

// Lists that were answered are written to, up to their room: no later answer, no list handed in and no earlier answer changes.
func TestNothingShared(t *testing.T) {
	m := of("C..P", ".##.", "P..C")
	sources, f := make([]int, 2, 9), make([]int, 12, 40)
	copy(sources, []int{11, 4})
	copy(f, costs(m, sources, 6))
	var answers [][]int
	for range 3 {
		again, err := Costs(m, sources, 6)
		if err != nil {
			t.Fatal(err)
		}
		answers = append(answers, again)
		for c := range 12 {
			answers = append(answers, Down(m, f, c), Way(m, f, c), Down(m, again, c), Way(m, again, c))
		}
	}
	for i, l := range answers {
		l = l[:cap(l)]
		for k := range l {
			l[k] = -1000*i - k
		}
	}
	for i, l := range answers {
		for k, x := range l[:cap(l)] {
			if x != -1000*i-k {
				t.Fatalf("the answer %d shares room", i)
			}
		}
	}
	if !slices.Equal(sources[:9], []int{11, 4, 0, 0, 0, 0, 0, 0, 0}) || !slices.Equal(f[:40], append(costs(m, []int{11, 4}, 6), make([]int, 28)...)) {
		t.Errorf("what was handed in became %v, %v", sources[:9], f[:40])
	}
	holds(t, m, sources, 6)
}

// What was handed in isn't kept: lists that are changed behind the call change no answer.
func TestNothingKept(t *testing.T) {
	m, sources := of("C..", "..."), []int{0, 5}
	want := costs(m, sources, 4)
	f, err := Costs(m, sources, 4)
	sources[0], sources[1] = 3, 3
	if err != nil || !slices.Equal(f, want) {
		t.Errorf("the field changed with its sources: %v, %v", f, err)
	}
	down, way := Down(m, f, 1), Way(m, f, 1)
	clear(f)
	if !slices.Equal(down, []int{0}) || !slices.Equal(way, []int{0}) {
		t.Errorf("Down and Way changed with the field: %v, %v", down, way)
	}
	holds(t, m, sources, 4)
}
