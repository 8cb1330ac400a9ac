package check

import (
	"math"
	"slices"
	"strconv"
	"strings"
	"testing"

	"dynamo/api"
	"dynamo/bits"
	"dynamo/disk"
	"dynamo/frame"
	"dynamo/node"
	"dynamo/pager"
	"dynamo/super"
	"dynamo/tag"
	"dynamo/tree"
)

// val is the value of each key: the checker asks none.
const val = "twelve bytes"

// pageKind is the kind of a page's frame.
const pageKind = 2

// order are the numbers of a page's errors, as the chapters name them.
var order = []int{9, 4, 7, 1, 3, 2}

// numbers answers a function that makes numbers from 0 on, always the same ones of one seed.
func numbers(seed uint64) func() int {
	return func() int {
		seed = seed*6364136223846793005 + 1442695040888963407
		return int(seed >> 33)
	}
}

// wants fails the test, if an error has another number than that (0: none).
func wants(t *testing.T, err error, want int, call string, args ...any) {
	t.Helper()
	if tag.Num(err) != want || (err == nil) != (want == 0) {
		t.Fatalf("%s%v: error %v, want %d", call, args, err, want)
	}
}

// fresh answers a disk and a pager that is made anew on it.
func fresh(t *testing.T, sectors int) (*disk.Disk, *pager.Pager) {
	t.Helper()
	d, err := disk.New(sectors)
	wants(t, err, 0, "disk.New", sectors)
	p, err := pager.Format(d)
	wants(t, err, 0, "Format")
	return d, p
}

// opened answers a new pager on a disk.
func opened(t *testing.T, d *disk.Disk) *pager.Pager {
	t.Helper()
	p, err := pager.Open(d)
	wants(t, err, 0, "Open")
	return p
}

// laid answers a node's data.
func laid(t *testing.T, n node.Node) string {
	t.Helper()
	data, err := node.Lay(n)
	wants(t, err, 0, "Lay", n)
	return data
}

// page makes a page.
func page(t *testing.T, p *pager.Pager, data string) int {
	t.Helper()
	sector, err := p.New(data)
	wants(t, err, 0, "New", data)
	return sector
}

// leaf answers a leaf of these keys.
func leaf(keys ...int) node.Node {
	return node.Node{Keys: keys, Vals: slices.Repeat([]string{val}, len(keys))}
}

// at answers the node in a page.
func at(t *testing.T, p *pager.Pager, sector int) node.Node {
	t.Helper()
	data, err := p.Load(sector)
	wants(t, err, 0, "Load", sector)
	n, err := node.Read(data)
	wants(t, err, 0, "Read", data)
	return n
}

// write writes a page's data over what its sector has: the pager isn't told.
func write(t *testing.T, d *disk.Disk, sector int, data string) {
	t.Helper()
	wants(t, frame.Store(d, sector, pageKind, data), 0, "Store", sector)
}

// plant makes the pages of a tree that is drawn: a leaf's keys in round brackets, an inner node's children and keys, as they follow
// each other, in square ones. It answers the root, 0 of no drawing.
func plant(t *testing.T, p *pager.Pager, drawing string) int {
	t.Helper()
	for _, mark := range "()[]" {
		drawing = strings.ReplaceAll(drawing, string(mark), " "+string(mark)+" ")
	}
	open := []node.Node{{}}
	for _, word := range strings.Fields(drawing) {
		last := len(open) - 1
		switch word {
		case "(", "[":
			open = append(open, node.Node{})
		case ")":
			open[last-1].Kids = append(open[last-1].Kids, page(t, p, laid(t, leaf(open[last].Keys...))))
			open = open[:last]
		case "]":
			open[last-1].Kids = append(open[last-1].Kids, page(t, p, laid(t, open[last])))
			open = open[:last]
		default:
			key, err := strconv.Atoi(word)
			wants(t, err, 0, "Atoi", word)
			open[last].Keys = append(open[last].Keys, key)
		}
	}
	if len(open[0].Kids) == 0 {
		return 0
	}
	return open[0].Kids[0]
}

// counted draws a tree of which how many keys each leaf has is told (a square bracket around children). The keys are 10, 20 and on; the
// key between two children is the least one behind it.
func counted(counts string) string {
	for _, mark := range "[]" {
		counts = strings.ReplaceAll(counts, string(mark), " "+string(mark)+" ")
	}
	var words []string
	key, first := 10, true // first: whether what follows is a first child
	for _, word := range strings.Fields(counts) {
		if word != "]" && !first {
			words = append(words, strconv.Itoa(key))
		}
		first = word == "["
		many, err := strconv.Atoi(word)
		if err != nil {
			words = append(words, word)
			continue
		}
		words = append(words, "(")
		for range many {
			words = append(words, strconv.Itoa(key))
			key += 10
		}
		if words = append(words, ")"); many == 0 { // no two keys between children are alike
			key += 10
		}
	}
	return strings.Join(words, " ")
}

// planted answers a disk, a pager and a root of a tree that is drawn, not committed.
func planted(t *testing.T, drawing string) (*disk.Disk, *pager.Pager, int) {
	t.Helper()
	d, p := fresh(t, 240)
	return d, p, plant(t, p, drawing)
}

// verdict is what is told of a tree: an error's number (0: it is sound), its sectors, and the leaves' level.
type verdict struct {
	num   int
	pages []int
	depth int
}

// equal tells whether two are alike.
func (v verdict) equal(w verdict) bool {
	return v.num == w.num && slices.Equal(v.pages, w.pages) && v.depth == w.depth
}

// told answers what the checker tells.
func told(t *testing.T, p *pager.Pager, root int) verdict {
	t.Helper()
	sound := Sound(p, root)
	pages, pagesErr := Pages(p, root)
	depth, depthErr := Depth(p, root)
	num := tag.Num(sound)
	if tag.Num(pagesErr) != num || tag.Num(depthErr) != num {
		t.Fatalf("at the root %d Sound is %v, Pages has %v, Depth has %v", root, sound, pagesErr, depthErr)
	}
	if (sound == nil) != (num == 0) || sound != nil && (len(pages) != 0 || depth != 0) {
		t.Fatalf("at the root %d Sound is %v, Pages = %v, Depth = %d", root, sound, pages, depth)
	}
	return verdict{num, pages, depth}
}

// judged answers what the chapter's words say, reckoned otherwise than the checker does: which pages are named on each level is
// gathered first, without a look at which were met; then, of a tree that has an end, all keys below each node, key by key.
func judged(p *pager.Pager, root int) verdict {
	if root == 0 {
		return verdict{}
	}
	nodes, nums, named := map[int]node.Node{}, map[int]bool{}, map[int]int{root: 1}
	row := map[int]bool{root: true}
	for level := 1; len(row) > 0; level++ {
		if level > 12 {
			nums[2] = true
			break
		}
		next := map[int]bool{}
		for sector := range row {
			_, known := nodes[sector]
			data, err := p.Load(sector)
			if err != nil {
				nums[tag.Num(err)] = true
				continue
			}
			n, err := node.Read(data)
			if err != nil {
				nums[2] = true
				continue
			}
			nodes[sector] = n
			for _, kid := range n.Kids {
				next[kid] = true
				if !known {
					named[kid]++
				}
			}
		}
		row = next
	}
	for _, num := range order {
		if nums[num] {
			return verdict{num: num}
		}
	}
	v := verdict{}
	for sector, times := range named {
		v.pages = append(v.pages, sector)
		n := nodes[sector]
		if times > 1 || !bits.Has(p.Used(), sector) || len(n.Keys) == 0 || sector != root && len(n.Keys) < 3 {
			return verdict{num: 2}
		}
	}
	slices.Sort(v.pages)
	levels := map[int]bool{}
	if _, ok := gathered(nodes, root, 1, levels); !ok || len(levels) != 1 {
		return verdict{num: 2}
	}
	for level := range levels {
		v.depth = level
	}
	return v
}

// gathered answers all keys of a node and below it, and whether each is on its side of each key there. The leaves' levels are kept.
func gathered(nodes map[int]node.Node, sector, level int, levels map[int]bool) ([]int, bool) {
	n := nodes[sector]
	keys := slices.Clone(n.Keys)
	if len(n.Kids) == 0 {
		levels[level] = true
	}
	for i, kid := range n.Kids {
		below, ok := gathered(nodes, kid, level+1, levels)
		for _, key := range below {
			for j, between := range n.Keys {
				if i <= j && key >= between || i > j && key < between {
					ok = false
				}
			}
		}
		if !ok {
			return nil, false
		}
		keys = append(keys, below...)
	}
	return keys, true
}

// holds fails the test, if the checker tells something else than the chapter's words.
func holds(t *testing.T, p *pager.Pager, root int) verdict {
	t.Helper()
	want := judged(p, root)
	if got := told(t, p, root); !got.equal(want) {
		t.Fatalf("at the root %d: %v, want %v", root, got, want)
	}
	return want
}

// is fails the test, if a tree has another error than that (0: it is sound), or the checker tells something else than the words.
func is(t *testing.T, p *pager.Pager, root, want int, what ...any) verdict {
	t.Helper()
	v := told(t, p, root)
	if v.num != want {
		t.Fatalf("%v: at the root %d the error %d, want %d", what, root, v.num, want)
	}
	if judge := judged(p, root); !v.equal(judge) {
		t.Fatalf("%v: at the root %d: %v, want %v", what, root, v, judge)
	}
	return v
}

// state is all that a later call could tell of a pager and of its disk.
type state struct {
	sectors []api.Page
	soft    int
	used    bits.Set
	root    int
	gen     uint32
	loads   []string
}

// stateOf answers it.
func stateOf(t *testing.T, d *disk.Disk, p *pager.Pager) state {
	t.Helper()
	s := state{soft: d.Soft(), used: p.Used(), root: p.Root(), gen: p.Gen()}
	for i := range d.Size() {
		content, err := d.Read(i)
		wants(t, err, 0, "disk.Read", i)
		s.sectors = append(s.sectors, content)
	}
	for i := range 240 {
		data, err := p.Load(i)
		s.loads = append(s.loads, data+" "+strconv.Itoa(tag.Num(err)))
	}
	return s
}

// unchanged fails the test, if what is done changes the disk or the pager.
func unchanged(t *testing.T, d *disk.Disk, p *pager.Pager, deed func()) {
	t.Helper()
	was := stateOf(t, d, p)
	deed()
	now := stateOf(t, d, p)
	if now.soft != was.soft || now.used != was.used || now.root != was.root || now.gen != was.gen {
		t.Fatalf("the pager is changed: %v, was %v", now, was)
	}
	if !slices.Equal(now.sectors, was.sectors) || !slices.Equal(now.loads, was.loads) {
		t.Fatalf("the disk, or what the pager loads, is changed")
	}
}

// shapes are sound trees of one level, two and three.
var shapes = []string{
	"1", "3", "7", "[3 3]", "[7 3]", "[3 4 5 6 7]", "[3 3 3 3 3 3 3 3]",
	"[[3 3 3 3] [3 3 3 3]]", "[[3 4 3 5 3] [3 3 7 3] [4 3 3 3]]",
}

// The chapter's example: an empty tree is sound, its depth 0.
func TestExample(t *testing.T) {
	_, p := fresh(t, 240)
	if err := Sound(p, 0); err != nil {
		t.Errorf("Sound of an empty tree: %v", err)
	}
	if depth, err := Depth(p, 0); depth != 0 || err != nil {
		t.Errorf("Depth of an empty tree = %d, %v", depth, err)
	}
}

// The empty tree is sound and has nothing, and no pager is asked for it.
func TestEmptyTree(t *testing.T) {
	d, down := fresh(t, 240)
	d.Crash(0, 0)
	_, loose := fresh(t, 3)
	page(t, loose, "a page")
	for _, p := range []*pager.Pager{nil, down, loose} {
		if v := told(t, p, 0); v.num != 0 || len(v.pages) != 0 || v.depth != 0 {
			t.Errorf("an empty tree: %v", v)
		}
	}
	_, p := fresh(t, 240)
	wants(t, Whole(p), 0, "Whole of a new pager")
	wants(t, Whole(down), 0, "Whole of an empty tree on a disk that is down")
	wants(t, Whole(nil), 0, "Whole of a nil pager: its tree is empty, and its set, too")
	wants(t, Whole(loose), 2, "Whole of an empty tree, and a page")
}

// Trees by how many keys their leaves have: the fewest, one less, the most; all leaves on one level, and not.
func TestShapes(t *testing.T) {
	four := "[3 3 3 3]"
	sixteen := "[" + strings.Repeat(four, 4) + "]"
	for _, c := range []struct {
		counts string
		depth  int // 0: not sound
	}{
		{"0", 0}, {"1", 1}, {"2", 1}, {"3", 1}, {"7", 1},
		{"[3 3]", 2}, {"[7 7]", 2}, {"[3 7]", 2}, {"[7 3]", 2}, {"[3 3 3 3 3 3 3 3]", 2}, {"[7 7 7 7 7 7 7 7]", 2},
		{"[2 3]", 0}, {"[3 2]", 0}, {"[1 3]", 0}, {"[3 1]", 0}, {"[3 0]", 0}, {"[0 3]", 0}, {"[2 2]", 0}, {"[0 0]", 0},
		{"[3 2 3]", 0}, {"[7 7 2]", 0}, {"[2 7 7]", 0}, {"[7 7 7 7 7 7 7 2]", 0}, {"[7 7 7 0 7 7 7 7]", 0},
		{"[" + four + four + "]", 3}, {"[" + strings.Repeat(four, 8) + "]", 3}, {"[[7 7 7 7 7 7 7 7] [3 3 3 3]]", 3},
		{"[[3 3 3]" + four + "]", 0}, {"[" + four + "[3 3 3]]", 0}, {"[[3 3]" + four + "]", 0}, {"[" + four + "[7 7 7]" + four + "]", 0},
		{"[" + four + "[3 3 2 3]]", 0}, {"[[2 3 3 3]" + four + "]", 0}, {"[" + four + four + "[3 3 3 2]]", 0}, {"[" + four + "[3 0 3 3]]", 0},
		{"[3 " + four + "]", 0}, {"[" + four + " 3]", 0}, {"[3 3 3 " + four + "]", 0}, {"[" + four + four + " 7]", 0}, {"[" + four + " 7 " + four + "]", 0},
		{"[" + four + "[3 3 3 " + four + "]]", 0}, {"[[" + four + " 3 3 3]" + four + "]", 0}, {"[[3 3 3 3 " + four + "]" + four + "]", 0},
		{"[" + sixteen + sixteen + "]", 4}, {"[" + sixteen + four + "]", 0}, {"[" + four + sixteen + "]", 0}, {"[3 " + sixteen + "]", 0}, {"[" + sixteen + " 3]", 0},
		{"[" + sixteen + "[" + four + four + "[3 3 3]" + four + "]]", 0}, {"[" + sixteen + "[" + four + four + four + "]]", 0},
	} {
		_, p, root := planted(t, counted(c.counts))
		want := 0
		if c.depth == 0 {
			want = 2
		}
		v := is(t, p, root, want, c.counts)
		if v.depth != c.depth {
			t.Errorf("%s: depth %d, want %d", c.counts, v.depth, c.depth)
		}
		wants(t, p.Commit(root), 0, "Commit", root)
		is(t, p, root, want, c.counts)
		wants(t, Whole(p), want, "Whole", c.counts)
	}
}

// Of five levels a tree of the fewest pages has room on a disk, and that alone; of four one that fills a disk.
func TestDeepest(t *testing.T) {
	four := "3"
	for range 3 {
		four = "[" + strings.Repeat(four+" ", 4) + "]"
	}
	_, p, root := planted(t, counted("["+four+four+"]"))
	if v := is(t, p, root, 0, "five levels"); v.depth != 5 || len(v.pages) != 1+2+8+32+128 {
		t.Errorf("five levels: %v", v)
	}
	less := strings.Replace("["+four+four+"]", "[3 3 3 3 ]", "[3 3 3]", 1)
	_, p, root = planted(t, counted(less))
	is(t, p, root, 2, "five levels, and a page less")
	full, more := "[", 22
	for range 5 {
		full += "["
		for range 6 {
			leaves := 6
			if more > 0 {
				leaves, more = 7, more-1
			}
			full += "[" + strings.Repeat("7 ", leaves) + "]"
		}
		full += "]"
	}
	_, p, root = planted(t, counted(full+"]"))
	if v := is(t, p, root, 0, "a full disk"); v.depth != 4 || len(v.pages) != 238 || v.pages[0] != 2 || v.pages[237] != 239 {
		t.Errorf("a full disk: %v", v)
	}
	wants(t, p.Commit(root), 0, "Commit", root)
	wants(t, Whole(p), 0, "Whole of a full disk")
}

// Keys below the key between two children, like it, and above it, on each side; keys 0 and 2^32 - 1.
func TestBetween(t *testing.T) {
	for drawing, want := range map[string]int{
		"(0)": 0, "(4294967295)": 0, "(0 4294967295)": 0,
		"[(10 20 30) 40 (40 50 60)]": 0, "[(10 20 30) 35 (40 50 60)]": 0, "[(10 20 30) 31 (40 50 60)]": 0, "[(10 20 39) 40 (40 50 60)]": 0,
		"[(10 20 30) 30 (40 50 60)]": 2, "[(10 20 30) 29 (40 50 60)]": 2, "[(10 20 30) 41 (40 50 60)]": 2, "[(10 20 30) 61 (40 50 60)]": 2,
		"[(10 20 30) 20 (40 50 60)]": 2, "[(10 20 30) 9 (40 50 60)]": 2, "[(10 20 30) 10 (40 50 60)]": 2,
		"[(10 20 40) 40 (40 50 60)]": 2, "[(10 20 41) 40 (40 50 60)]": 2, "[(10 20 30) 40 (39 50 60)]": 2, "[(10 20 30) 40 (30 50 60)]": 2,
		"[(40 50 60) 40 (10 20 30)]": 2, "[(10 20 30) 40 (10 20 30)]": 2, "[(10 20 4294967295) 40 (40 50 60)]": 2, "[(10 20 30) 40 (0 50 60)]": 2,
		"[(0 1 2) 3 (3 4 5)]": 0, "[(0 1 2) 3 (4294967293 4294967294 4294967295)]": 0, "[(0 1 2) 4294967293 (4294967293 4294967294 4294967295)]": 0,
		"[(0 1 2) 4294967294 (4294967293 4294967294 4294967295)]": 2, "[(0 1 2) 4294967295 (3 4 5)]": 2, "[(0 1 2) 0 (3 4 5)]": 2,
		"[(1 2 3) 4 (4 5 6) 7 (7 8 9) 10 (10 11 12)]": 0,
		"[(1 2 3) 4 (4 5 7) 7 (7 8 9) 10 (10 11 12)]": 2, "[(1 2 3) 4 (4 5 6) 7 (6 8 9) 10 (10 11 12)]": 2, "[(1 2 3) 4 (3 5 6) 7 (7 8 9) 10 (10 11 12)]": 2,
		"[(1 2 3) 4 (7 8 9) 7 (4 5 6) 10 (10 11 12)]": 2, "[(1 2 3) 4 (10 11 12) 7 (7 8 9) 10 (10 11 12)]": 2,
		// In a child's child: 50 stands above, 70 on the side of its child.
		"[[(1 2 3) 10 (10 11 12) 20 (20 21 22) 30 (30 31 49)] 50 [(50 51 52) 60 (60 61 62) 70 (70 71 72) 80 (80 81 82)]]": 0,
		"[[(1 2 3) 10 (10 11 12) 20 (20 21 22) 30 (30 31 50)] 50 [(50 51 52) 60 (60 61 62) 70 (70 71 72) 80 (80 81 82)]]": 2,
		"[[(1 2 3) 10 (10 11 12) 20 (20 21 22) 30 (30 31 51)] 50 [(50 51 52) 60 (60 61 62) 70 (70 71 72) 80 (80 81 82)]]": 2,
		"[[(1 2 3) 10 (10 11 12) 20 (20 21 22) 30 (30 31 49)] 50 [(49 51 52) 60 (60 61 62) 70 (70 71 72) 80 (80 81 82)]]": 2,
		"[[(1 2 3) 10 (10 11 12) 20 (20 21 22) 30 (30 31 49)] 51 [(50 51 52) 60 (60 61 62) 70 (70 71 72) 80 (80 81 82)]]": 2,
		"[[(1 2 3) 10 (10 11 12) 20 (20 21 22) 30 (30 31 49)] 49 [(50 51 52) 60 (60 61 62) 70 (70 71 72) 80 (80 81 82)]]": 2,
		"[[(1 2 3) 10 (10 11 12) 20 (20 21 22) 30 (30 31 49)] 30 [(50 51 52) 60 (60 61 62) 70 (70 71 72) 80 (80 81 82)]]": 2,
		"[[(1 2 3) 10 (10 11 12) 20 (20 21 22) 50 (30 31 49)] 50 [(50 51 52) 60 (60 61 62) 70 (70 71 72) 80 (80 81 82)]]": 2,
		"[[(1 2 3) 10 (10 11 12) 20 (20 21 22) 30 (30 31 49)] 50 [(50 51 52) 60 (60 61 62) 70 (70 71 80) 80 (80 81 82)]]": 2,
		"[[(1 2 3) 10 (10 11 12) 20 (20 21 22) 30 (30 31 49)] 50 [(50 51 52) 60 (50 61 62) 70 (70 71 72) 80 (80 81 82)]]": 2,
		"[[(50 51 52) 60 (60 61 62) 70 (70 71 72) 80 (80 81 82)] 50 [(1 2 3) 10 (10 11 12) 20 (20 21 22) 30 (30 31 49)]]": 2,
	} {
		_, p, root := planted(t, drawing)
		is(t, p, root, want, drawing)
	}
}

// Each key of each node, moved as far as its neighbours in the node let it: held against the chapter's words, on both sides of each edge.
func TestKeyMoved(t *testing.T) {
	for _, counts := range []string{"1", "3", "[3 4]", "[3 3 5 3]", "[[3 4 3 5 3] [3 3 4 3] [4 3 3 3]]"} {
		d, p, root := planted(t, counted(counts))
		pages := is(t, p, root, 0, counts).pages
		sound, not := 0, 0
		for _, sector := range pages {
			n := at(t, p, sector)
			for i, key := range n.Keys {
				for _, move := range []int{-21, -20, -19, -11, -10, -9, -1, 1, 9, 10, 11, 19, 20, 21} {
					m := node.Node{Keys: slices.Clone(n.Keys), Vals: n.Vals, Kids: n.Kids}
					m.Keys[i] = key + move
					if !node.Right(m) {
						continue
					}
					write(t, d, sector, laid(t, m))
					if holds(t, p, root).num == 0 {
						sound++
					} else {
						not++
					}
				}
			}
			write(t, d, sector, laid(t, n))
		}
		is(t, p, root, 0, counts)
		if sound == 0 || not == 0 && len(pages) > 1 {
			t.Errorf("%s: %d moves leave it sound, %d don't", counts, sound, not)
		}
	}
}

// What layer 10 makes is sound behind each call, rising, falling and mixed, and whole behind each commit.
func TestOrders(t *testing.T) {
	const many = 130
	var rising []int
	for i := range many {
		rising = append(rising, 3*i)
	}
	falling, mixed, next := slices.Clone(rising), slices.Clone(rising), numbers(11)
	slices.Reverse(falling)
	for i := range mixed {
		j := i + next()%(many-i)
		mixed[i], mixed[j] = mixed[j], mixed[i]
	}
	deepest := 0
	for _, in := range [][]int{rising, falling, mixed} {
		for _, out := range [][]int{rising, falling, mixed} {
			for _, commits := range []bool{false, true} {
				_, p := fresh(t, 240)
				root := 0
				step := func(next int, err error) {
					t.Helper()
					wants(t, err, 0, "a Put or a Delete")
					root = next
					deepest = max(deepest, is(t, p, root, 0, "behind a call").depth)
					if commits {
						wants(t, p.Commit(root), 0, "Commit", root)
						wants(t, Whole(p), 0, "Whole behind a commit")
						is(t, p, root, 0, "behind a commit")
					}
				}
				for _, key := range in {
					step(tree.Put(p, root, key, val))
				}
				for _, key := range out {
					step(tree.Delete(p, root, key))
				}
				if root != 0 {
					t.Fatalf("all keys are deleted, and the root is %d", root)
				}
			}
		}
	}
	if deepest < 3 {
		t.Errorf("the deepest tree had %d levels", deepest)
	}
}

// Puts and deletes, commits, aborts and losses of power in many orders: sound behind each, whole behind what brings the tree that was
// committed.
func TestManyDeeds(t *testing.T) {
	for seed := range uint64(8) {
		next, room := numbers(seed), []int{10, 40, 120, 300}[seed%4]
		d, p := fresh(t, 240)
		root := 0
		for range 300 {
			var err error
			was := root
			switch key := next() % room; next() % 12 {
			case 0:
				wants(t, p.Commit(root), 0, "Commit", root)
				wants(t, Whole(p), 0, "Whole behind a commit")
			case 1:
				p.Abort()
				root = p.Root()
				wants(t, Whole(p), 0, "Whole behind Abort")
			case 2:
				d.Crash(uint32(next()), next())
				d.Up()
				p = opened(t, d)
				root = p.Root()
				wants(t, Whole(p), 0, "Whole of a new pager")
			case 3, 4, 5, 6, 7, 8:
				root, err = tree.Put(p, root, key, val)
			default:
				root, err = tree.Delete(p, root, key)
			}
			if err != nil {
				wants(t, err, 4, "Delete")
				root = was
			}
			is(t, p, root, 0, "behind a deed")
		}
	}
}

// kidsOf answers all pages of a tree, and of each the page that names it (0: none) and as which child.
func kidsOf(t *testing.T, p *pager.Pager, root int) (pages, parents, places []int) {
	t.Helper()
	pages, parents, places = []int{root}, []int{0}, []int{0}
	for i := 0; i < len(pages); i++ {
		for j, kid := range at(t, p, pages[i]).Kids {
			pages, parents, places = append(pages, kid), append(parents, pages[i]), append(places, j)
		}
	}
	return pages, parents, places
}

// faults are what can be wrong with a page that an inner node names: the number of the error, and the deed. Each leaves all others as they are.
// A page that isn't used is in none of the pager's sets; one that goes can be loaded.
var faults = []struct {
	name string
	num  int
	deed func(t *testing.T, d *disk.Disk, p *pager.Pager, sector int)
}{
	{"it isn't used", 4, func(t *testing.T, d *disk.Disk, p *pager.Pager, sector int) {
		rename(t, d, p, sector, 200)
	}},
	{"it isn't on the disk", 1, func(t *testing.T, d *disk.Disk, p *pager.Pager, sector int) {
		rename(t, d, p, sector, 239)
	}},
	{"its sum is another one", 3, func(t *testing.T, d *disk.Disk, p *pager.Pager, sector int) {
		content, err := d.Read(sector)
		wants(t, err, 0, "disk.Read", sector)
		content[20] ^= 4
		wants(t, d.Write(sector, content), 0, "disk.Write", sector)
	}},
	{"it is no page", 2, func(t *testing.T, d *disk.Disk, p *pager.Pager, sector int) {
		data, err := p.Load(sector)
		wants(t, err, 0, "Load", sector)
		wants(t, frame.Store(d, sector, pageKind+1, data), 0, "Store", sector)
	}},
	{"it is no node", 2, func(t *testing.T, d *disk.Disk, p *pager.Pager, sector int) { write(t, d, sector, "no node") }},
	{"it is empty", 2, func(t *testing.T, d *disk.Disk, p *pager.Pager, sector int) { write(t, d, sector, "") }},
	{"it goes", 2, func(t *testing.T, d *disk.Disk, p *pager.Pager, sector int) {
		wants(t, p.Drop(sector), 0, "Drop", sector)
	}},
	{"it has no keys", 2, func(t *testing.T, d *disk.Disk, p *pager.Pager, sector int) { write(t, d, sector, laid(t, leaf())) }},
	{"it has two keys", 2, func(t *testing.T, d *disk.Disk, p *pager.Pager, sector int) {
		n := at(t, p, sector)
		n.Keys = n.Keys[:2]
		if n.Vals = n.Vals[:min(2, len(n.Vals))]; !node.Leaf(n) {
			n.Kids = n.Kids[:3]
		}
		write(t, d, sector, laid(t, n))
	}},
	{"its last key is on the wrong side", 2, func(t *testing.T, d *disk.Disk, p *pager.Pager, sector int) {
		n := at(t, p, sector)
		n.Keys[len(n.Keys)-1] += 100000
		write(t, d, sector, laid(t, n))
	}},
	{"its first key is on the wrong side", 2, func(t *testing.T, d *disk.Disk, p *pager.Pager, sector int) {
		n := at(t, p, sector)
		n.Keys[0] = 0
		write(t, d, sector, laid(t, n))
	}},
}

// rename lets the node that names a page name another sector instead.
func rename(t *testing.T, d *disk.Disk, p *pager.Pager, sector, other int) {
	t.Helper()
	for above := 2; above < d.Size(); above++ {
		data, err := p.Load(above)
		if err != nil {
			continue
		}
		n, err := node.Read(data)
		if err != nil {
			continue
		}
		if i := slices.Index(n.Kids, sector); i >= 0 {
			n.Kids[i] = other
			write(t, d, above, laid(t, n))
			return
		}
	}
}

// spoilt answers a sound tree on a disk of 220 sectors, committed, with pages that hang on nothing, and a pager whose set has the sector
// 239 too, which the disk hasn't.
func spoilt(t *testing.T, counts string) (*disk.Disk, *pager.Pager, int) {
	t.Helper()
	d, p := fresh(t, 220)
	root := plant(t, p, counted(counts))
	wants(t, p.Commit(root), 0, "Commit", root)
	s, err := super.Best(d)
	wants(t, err, 0, "Best")
	s.Gen, s.Used = s.Gen+1, bits.With(s.Used, 239)
	wants(t, super.Switch(d, s), 0, "Switch", s)
	return d, opened(t, d), root
}

// One thing alone is wrong, in each page but the root. (The first leaf has no wrong side for its first key, nor the last one for its last.)
func TestOneFault(t *testing.T) {
	for _, counts := range []string{"[3 3]", "[3 4 5 3]", "[[3 4 3 5 3] [3 3 7 3] [4 3 3 3]]"} {
		d, p, root := spoilt(t, counts)
		pages, _, _ := kidsOf(t, p, root)
		is(t, p, root, 0, counts)
		wants(t, Whole(p), 2, "Whole", counts)
		for _, sector := range pages[1:] {
			n := at(t, p, sector)
			for _, f := range faults {
				if f.name == "its first key is on the wrong side" && node.Leaf(n) && n.Keys[0] == 10 ||
					f.name == "its last key is on the wrong side" && sector == pages[len(pages)-1] {
					continue
				}
				f.deed(t, d, p, sector)
				unchanged(t, d, p, func() { is(t, p, root, f.num, counts, sector, f.name) })
				wants(t, Whole(p), f.num, "Whole", counts, sector, f.name)
				d, p, root = spoilt(t, counts)
			}
		}
	}
}

// The root itself: what may be wrong with it.
func TestRoot(t *testing.T) {
	for _, counts := range []string{"1", "7", "[3 3]", "[[3 4 3 5 3] [3 3 7 3] [4 3 3 3]]"} {
		for _, f := range faults {
			want := f.num
			switch f.name {
			case "it isn't used", "it isn't on the disk": // nobody names it
				want = 0
			case "it has two keys", "its first key is on the wrong side", "its last key is on the wrong side":
				continue
			}
			d, p, root := spoilt(t, counts)
			f.deed(t, d, p, root)
			is(t, p, root, want, counts, f.name)
		}
		d, p, root := spoilt(t, counts)
		for _, wrong := range []int{math.MinInt, math.MinInt + 1, -256 + root, -root, -1, 1, 100, 219, 220, 238, 240, 241, 255, 256, 256 + root, 1<<32 + root, math.MaxInt - 1, math.MaxInt} {
			unchanged(t, d, p, func() { is(t, p, wrong, 4, counts) })
		}
		unchanged(t, d, p, func() { is(t, p, 239, 1, "a root that the disk hasn't") })
		for _, wrong := range []int{math.MinInt, -1, 1, 2, root, 239, 240, math.MaxInt} {
			if v := told(t, nil, wrong); v.num != 9 {
				t.Errorf("with a nil pager, at the root %d: %v", wrong, v)
			}
		}
	}
	// A root may have one key, with children of three.
	_, p, root := planted(t, counted("[3 3]"))
	is(t, p, root, 0, "a root of one key")
	// A root below another one's is a root, too: it may have one key.
	_, p, root = planted(t, "[[(1 2 3) 4 (4 5 6)] 9 [(9 10 11) 12 (12 13 14)]]")
	is(t, p, root, 2, "inner nodes of one key")
	for _, kid := range at(t, p, root).Kids {
		is(t, p, kid, 0, "a part of a tree")
	}
}

// Each child of each inner node, named as each page of the tree is, and as the root: a page is named twice, nodes hang on one another
// in a ring, or leaves are on another level.
func TestNamedTwice(t *testing.T) {
	for _, counts := range []string{"[3 3]", "[3 4 5 3]", "[[3 3 3 3] [3 3 7 3] [4 3 3 3]]"} {
		d, p, root := planted(t, counted(counts))
		pages, parents, places := kidsOf(t, p, root)
		for i := range pages[1:] {
			parent, place := parents[i+1], places[i+1]
			n := at(t, p, parent)
			for _, other := range pages {
				m := node.Node{Keys: n.Keys, Kids: slices.Clone(n.Kids)}
				m.Kids[place] = other
				if other == n.Kids[place] || !node.Right(m) {
					continue
				}
				write(t, d, parent, laid(t, m))
				unchanged(t, d, p, func() { is(t, p, root, 2, counts, parent, place, other) })
			}
			write(t, d, parent, laid(t, n))
		}
		is(t, p, root, 0, counts)
	}
}

// Two children of a node that change places: no page is named twice, all keys are somewhere.
func TestChangedPlaces(t *testing.T) {
	for _, counts := range []string{"[3 3]", "[3 4 5 3]", "[[3 3 3 3] [3 3 7 3] [4 3 3 3]]"} {
		d, p, root := planted(t, counted(counts))
		for _, sector := range is(t, p, root, 0, counts).pages {
			n := at(t, p, sector)
			for i := range n.Kids {
				for j := range i {
					m := node.Node{Keys: n.Keys, Kids: slices.Clone(n.Kids)}
					m.Kids[i], m.Kids[j] = m.Kids[j], m.Kids[i]
					write(t, d, sector, laid(t, m))
					is(t, p, root, 2, counts, sector, i, j)
				}
			}
			if !node.Leaf(n) {
				write(t, d, sector, laid(t, n))
			}
		}
		is(t, p, root, 0, counts)
	}
}

// Nodes in rings, each above all of them, and nodes on eleven levels, each above all of the next one: few looks are enough.
func TestRings(t *testing.T) {
	_, p := fresh(t, 240)
	for i := range 8 {
		n := node.Node{Kids: []int{2, 3, 4, 5, 6, 7, 8, 9}}
		for j := range 7 {
			n.Keys = append(n.Keys, 1000*(j+1)+10*i)
		}
		page(t, p, laid(t, n))
	}
	for root := 2; root < 10; root++ {
		is(t, p, root, 2, "a ring")
	}
	_, p = fresh(t, 240)
	var below []int
	for i := range 8 {
		below = append(below, page(t, p, laid(t, leaf(100*i, 100*i+1, 100*i+2))))
	}
	for level := range 11 {
		var row []int
		for i := range 8 {
			n := node.Node{Kids: below}
			for j := range 7 {
				n.Keys = append(n.Keys, 100*(j+1)+level+i)
			}
			row = append(row, page(t, p, laid(t, n)))
		}
		below = row
	}
	is(t, p, below[0], 2, "nodes with many ways to them")
	// A ring of two, and a page of it that can't be read.
	d, p := fresh(t, 240)
	write(t, d, 3, laid(t, node.Node{Keys: []int{10}, Kids: []int{2, 200}}))
	page(t, p, laid(t, node.Node{Keys: []int{10}, Kids: []int{3, 4}}))
	page(t, p, laid(t, node.Node{Keys: []int{10}, Kids: []int{2, 200}}))
	page(t, p, laid(t, leaf(10, 20, 30)))
	is(t, p, 2, 4, "a ring, and a page that isn't used")
	is(t, p, 3, 4, "a ring, and a page that isn't used")
}

// chain answers the root of nodes that hang on one another, so many levels of them, the last one a page of these data. In each inner
// node the next one stands at a place; at the others stand leaves.
func chain(t *testing.T, p *pager.Pager, levels, place int, last string) int {
	t.Helper()
	sector := page(t, p, last)
	for level := levels - 1; level > 0; level-- {
		n := node.Node{Keys: []int{10 * level, 10*level + 3, 10*level + 6}}
		for i := range 4 {
			if i == place {
				n.Kids = append(n.Kids, sector)
			} else {
				n.Kids = append(n.Kids, page(t, p, laid(t, leaf(10*level+3*i, 10*level+3*i+1, 10*level+3*i+2))))
			}
		}
		sector = page(t, p, laid(t, n))
	}
	return sector
}

// Twelve levels are looked at; what hangs below them isn't asked for, as no call of chapter 10 does. No tree of so many levels is sound:
// no disk has room for one.
func TestLevels(t *testing.T) {
	good := laid(t, leaf(1, 2, 3))
	for levels := 2; levels <= 16; levels++ {
		for place := range 4 {
			_, p := fresh(t, 240)
			root := chain(t, p, levels, place, good)
			is(t, p, root, 2, levels, place)
			if _, err := tree.Get(p, root, 1<<32-1); (tag.Num(err) == 2) != (levels > 12 && place == 3) {
				t.Errorf("%d levels, place %d: Get: %v", levels, place, err)
			}
			// A page that isn't used, below the chain's last node.
			_, p = fresh(t, 240)
			root = chain(t, p, levels, place, laid(t, node.Node{Keys: []int{5}, Kids: []int{238, 239}}))
			want := 4
			if levels+1 > 12 {
				want = 2
			}
			is(t, p, root, want, levels, place)
		}
	}
	// A page on the twelfth level and on the third one is asked for what hangs on it.
	_, p := fresh(t, 240)
	deep := page(t, p, laid(t, node.Node{Keys: []int{5}, Kids: []int{238, 239}}))
	sector := deep
	for level := 11; level > 0; level-- {
		n := node.Node{Keys: []int{5}, Kids: []int{sector, page(t, p, good)}}
		if level == 2 {
			n.Kids[1] = deep
		}
		sector = page(t, p, laid(t, n))
	}
	is(t, p, sector, 4, "a page on two levels")
}

// Two things are wrong, in each two places: the error is the one that is named first, whichever page is met first. A page's own error
// stands ahead of a tree that isn't sound.
func TestWhichErrorFirst(t *testing.T) {
	const counts = "[[4 4 4 4] [4 4 4 4]]"
	_, p, root := spoilt(t, counts)
	pages, parents, _ := kidsOf(t, p, root)
	for i, first := range pages[1:] {
		for j, second := range pages[1:] {
			if i == j || parents[i+1] == second || parents[j+1] == first { // a page that can't be read hides those below it
				continue
			}
			for _, f := range faults {
				for _, g := range faults {
					if f.name == g.name || strings.HasPrefix(f.name, "its first") || strings.HasPrefix(f.name, "its last") {
						continue
					}
					d, p, root := spoilt(t, counts)
					f.deed(t, d, p, first)
					g.deed(t, d, p, second)
					want := order[min(slices.Index(order, f.num), slices.Index(order, g.num))]
					is(t, p, root, want, f.name, first, g.name, second)
				}
			}
		}
	}
	// A disk that is down: that is named ahead of all, but of a root that isn't used.
	d, p, root := spoilt(t, counts)
	write(t, d, root, "no node")
	d.Crash(0, 0)
	is(t, p, root, 7, "a disk that is down")
	is(t, p, 239, 7, "a disk that is down")
	is(t, p, 238, 4, "a root that isn't used, on a disk that is down")
	is(t, p, 0, 0, "an empty tree, on a disk that is down")
}

// A disk that is down: ErrDown at each call; when it is up again, all is as it was.
func TestDiskThatIsDown(t *testing.T) {
	for _, counts := range shapes {
		d, p, root := planted(t, counted(counts))
		wants(t, p.Commit(root), 0, "Commit", root)
		v := is(t, p, root, 0, counts)
		d.Crash(0, 0)
		is(t, p, root, 7, counts)
		wants(t, Whole(p), 7, "Whole", counts)
		d.Up()
		if w := is(t, p, root, 0, counts); !w.equal(v) {
			t.Errorf("%s: %v, was %v", counts, w, v)
		}
		wants(t, Whole(p), 0, "Whole", counts)
	}
}

// Whole: nothing in use hangs on anything else than the root that was committed.
func TestWhole(t *testing.T) {
	for _, counts := range shapes {
		d, p, root := planted(t, counted(counts))
		pages := is(t, p, root, 0, counts).pages
		wants(t, Whole(p), 2, "Whole of pages that aren't committed", counts)
		wants(t, p.Commit(root), 0, "Commit", root)
		wants(t, Whole(p), 0, "Whole", counts)
		wants(t, Whole(opened(t, d)), 0, "Whole of a new pager", counts)
		// A page that hangs on nothing, a node or not: new, aborted, committed; and one that goes again.
		for _, data := range []string{"", "a page", laid(t, leaf()), laid(t, leaf(1, 2, 3)), laid(t, node.Node{Keys: []int{9}, Kids: []int{2, 3}})} {
			loose := page(t, p, data)
			wants(t, Whole(p), 2, "Whole with a page that is new", counts, data)
			is(t, p, root, 0, counts)
			p.Abort()
			wants(t, Whole(p), 0, "Whole behind Abort", counts, data)
			loose = page(t, p, data)
			wants(t, p.Commit(root), 0, "Commit", root)
			unchanged(t, d, p, func() { wants(t, Whole(p), 2, "Whole with a page that hangs on nothing", counts, data) })
			wants(t, Whole(opened(t, d)), 2, "Whole of a new pager", counts, data)
			wants(t, p.Drop(loose), 0, "Drop", loose)
			wants(t, Whole(p), 0, "Whole behind Drop", counts, data)
			wants(t, p.Commit(root), 0, "Commit", root)
			wants(t, Whole(p), 0, "Whole", counts, data)
		}
		// Each page of the tree goes.
		for _, sector := range pages {
			wants(t, p.Drop(sector), 0, "Drop", sector)
			is(t, p, root, 2, counts, sector)
			unchanged(t, d, p, func() { wants(t, Whole(p), 2, "Whole with a page that goes", counts, sector) })
			p.Abort()
			wants(t, Whole(p), 0, "Whole behind Abort", counts, sector)
		}
		// A page goes, and another one hangs on nothing: as many as there should be.
		for _, sector := range pages {
			wants(t, p.Drop(sector), 0, "Drop", sector)
			page(t, p, "a page")
			wants(t, Whole(p), 2, "Whole with another page", counts, sector)
			p.Abort()
		}
		// Another tree beside the one that counts: each of them is sound.
		other := plant(t, p, counted(counts))
		is(t, p, other, 0, counts)
		wants(t, Whole(p), 2, "Whole with another tree", counts)
		wants(t, p.Commit(other), 0, "Commit", other)
		wants(t, Whole(p), 2, "Whole with another tree", counts)
		for _, sector := range pages {
			wants(t, p.Drop(sector), 0, "Drop", sector)
		}
		wants(t, Whole(p), 0, "Whole of the other tree", counts)
		is(t, p, root, 2, counts)
		wants(t, p.Commit(other), 0, "Commit", other)
		wants(t, Whole(p), 0, "Whole of the other tree", counts)
		is(t, p, root, 4, counts)
		// The empty root is committed, and the pages stay.
		wants(t, p.Commit(0), 0, "Commit", 0)
		wants(t, Whole(p), 2, "Whole of an empty tree, with pages", counts)
	}
}

// Whole while a tree is changed: the pager's root is the one that was committed, whose pages go.
func TestWholeBetweenCommits(t *testing.T) {
	for _, counts := range shapes {
		d, p, root := planted(t, counted(counts))
		wants(t, p.Commit(root), 0, "Commit", root)
		next, err := tree.Put(p, root, 15, val)
		wants(t, err, 0, "Put", 15)
		wants(t, Whole(p), 2, "Whole of a tree that is changed", counts)
		is(t, p, root, 2, counts)
		is(t, p, next, 0, counts)
		for mask := range uint32(4) {
			e, q, root := planted(t, counted(counts))
			wants(t, q.Commit(root), 0, "Commit", root)
			_, err := tree.Put(q, root, 15, val)
			wants(t, err, 0, "Put", 15)
			e.Crash(mask, 50)
			e.Up()
			q = opened(t, e)
			wants(t, Whole(q), 0, "Whole behind a loss of power", counts)
			is(t, q, root, 0, counts)
		}
		wants(t, p.Commit(next), 0, "Commit", next)
		wants(t, Whole(p), 0, "Whole", counts)
		is(t, p, next, 0, counts)
		if was := told(t, p, root); was.num != 4 {
			t.Errorf("%s: the root that was: %v", counts, was)
		}
		d.Crash(0, 0)
		d.Up()
		wants(t, Whole(opened(t, d)), 0, "Whole behind a loss of power", counts)
	}
}

// Sectors that a superblock says are used, though no page of the tree lies there, on the disk or beyond it.
func TestWholeSets(t *testing.T) {
	for sector := 2; sector < 240; sector++ {
		d, p := fresh(t, 20)
		root := plant(t, p, counted("[3 4]"))
		wants(t, p.Commit(root), 0, "Commit", root)
		s, err := super.Best(d)
		wants(t, err, 0, "Best")
		want := 2
		if bits.Has(s.Used, sector) {
			want = 0
		}
		s.Gen, s.Used = s.Gen+1, bits.With(s.Used, sector)
		wants(t, super.Switch(d, s), 0, "Switch", s)
		p = opened(t, d)
		is(t, p, root, 0, sector)
		wants(t, Whole(p), want, "Whole", sector)
	}
}

// No call changes anything, whatever it answers, and done twice it answers the same.
func TestNothingChanges(t *testing.T) {
	for _, counts := range append([]string{"", "0", "[2 3]", "[[3 3 3] [3 3 3 3]]"}, shapes...) {
		d, p, root := planted(t, counted(counts))
		look := func() {
			for at := -1; at < 242; at++ {
				if v, w := told(t, p, at), told(t, p, at); !v.equal(w) {
					t.Fatalf("%s: at the root %d: %v, then %v", counts, at, v, w)
				}
			}
			if num := tag.Num(Whole(p)); tag.Num(Whole(p)) != num {
				t.Fatalf("%s: Whole isn't twice the same", counts)
			}
		}
		unchanged(t, d, p, look)
		wants(t, p.Commit(root), 0, "Commit", root)
		unchanged(t, d, p, look)
		page(t, p, "a page")
		if root != 0 {
			wants(t, p.Drop(root), 0, "Drop", root)
		}
		unchanged(t, d, p, look)
		p.Abort()
		unchanged(t, d, p, look)
	}
}

// The lists that Pages answers share nothing with one another, spare room included, and keep what they have whatever is called then.
func TestListsShareNothing(t *testing.T) {
	_, p, root := planted(t, counted("[[3 4 5 6] [7 7 3 3]]"))
	a, err := Pages(p, root)
	wants(t, err, 0, "Pages")
	b, err := Pages(p, root)
	wants(t, err, 0, "Pages")
	was := slices.Clone(b)
	room := a[:cap(a)]
	for i := range room {
		room[i] = -1
	}
	is(t, p, root, 0, "behind marks")
	next, err := tree.Delete(p, root, 10)
	wants(t, err, 0, "Delete", 10)
	wants(t, p.Commit(next), 0, "Commit", next)
	is(t, p, next, 0, "behind a Delete")
	wants(t, Whole(p), 0, "Whole")
	p.Abort()
	if !slices.Equal(b, was) {
		t.Errorf("a list that was answered has become %v, was %v", b, was)
	}
	for _, mark := range room {
		if mark != -1 {
			t.Errorf("a list that was answered is written on: %v", room)
		}
	}
}

// Whatever nodes hang on whatever others, the checker tells what the chapter's words say.
func TestWildNodes(t *testing.T) {
	next := numbers(2026)
	counts := map[int]int{}
	for range 400 {
		d, p := fresh(t, 24)
		for range 14 {
			var n node.Node
			key := next() % 4
			for range 1 + next()%7 {
				n.Keys = append(n.Keys, key)
				key += 1 + next()%6
			}
			if n.Vals = leaf(n.Keys...).Vals; next()%3 > 0 {
				n.Vals = nil
				for kid := 2 + next()%(15-len(n.Keys)); len(n.Kids) <= len(n.Keys); kid++ {
					n.Kids = append(n.Kids, kid)
				}
			}
			page(t, p, laid(t, n))
		}
		wants(t, p.Commit(2), 0, "Commit")
		for range next() % 3 {
			wants(t, d.Write(2+next()%14, api.Page{1}), 0, "disk.Write")
		}
		if next()%3 == 0 {
			write(t, d, 2+next()%14, "no node")
		}
		if next()%3 == 0 {
			wants(t, p.Drop(2+next()%14), 0, "Drop")
		}
		for root := range 18 {
			counts[holds(t, p, root).num]++
		}
	}
	for _, num := range []int{0, 2, 3, 4} {
		if counts[num] < 20 {
			t.Errorf("the error %d is met just %d times", num, counts[num])
		}
	}
}

// Trees of layer 10 with a node or two changed a little: the checker tells what the chapter's words say.
func TestChangedALittle(t *testing.T) {
	next := numbers(404)
	counts := map[int]int{}
	for range 60 {
		d, p := fresh(t, 240)
		root := 0
		for range 5 + next()%120 {
			var err error
			root, err = tree.Put(p, root, next()%500, val)
			wants(t, err, 0, "Put")
		}
		wants(t, p.Commit(root), 0, "Commit", root)
		pages := is(t, p, root, 0, "a tree").pages
		for range 60 {
			was := stateOf(t, d, p).sectors
			for range 1 + next()%2 {
				little(t, d, p, pages[next()%len(pages)], next)
			}
			v := holds(t, p, root)
			wants(t, Whole(p), v.num, "Whole", v)
			counts[v.num]++
			for sector := range d.Size() {
				wants(t, d.Write(sector, was[sector]), 0, "disk.Write", sector)
			}
		}
	}
	for _, num := range []int{0, 2, 4} {
		if counts[num] < 20 {
			t.Errorf("the error %d is met just %d times", num, counts[num])
		}
	}
}

// little changes a node a little: a key, or a child, so that it stays right.
func little(t *testing.T, d *disk.Disk, p *pager.Pager, sector int, next func() int) {
	t.Helper()
	for range 50 {
		n := at(t, p, sector)
		if i := next() % len(n.Keys); len(n.Kids) == 0 || next()%2 == 0 {
			n.Keys[i] += next()%13 - 6
		} else {
			n.Kids[i] += next()%13 - 6
		}
		if node.Right(n) {
			write(t, d, sector, laid(t, n))
			return
		}
	}
}
