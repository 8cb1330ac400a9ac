package tree

import (
	"math"
	"slices"
	"strconv"
	"strings"
	"testing"

	"dynamo/api"
	"dynamo/bits"
	"dynamo/disk"
	"dynamo/node"
	"dynamo/pager"
	"dynamo/super"
	"dynamo/tag"
)

// odd are keys that may not be.
var odd = []int{-1, -2, -256, -1 << 31, -1 << 32, math.MinInt + 1, math.MinInt, 1 << 32, 1<<32 + 1, 1<<32 + 10, 1 << 40, 1 << 62, math.MaxInt - 1, math.MaxInt}

// numbers answers a function that makes numbers from 0 on, always the same ones of one seed.
func numbers(seed uint64) func() int {
	return func() int {
		seed = seed*6364136223846793005 + 1442695040888963407
		return int(seed >> 33)
	}
}

// value answers a key's n-th value, no two of them alike, with bytes that are no text.
func value(key, n int) string {
	return string([]byte{byte(key >> 24), byte(key >> 16), byte(key >> 8), byte(key), 0, 255, '\n', byte(n >> 8), byte(n), 0xc3, 'v', 0})
}

// wants fails the test, if an error has another number than that (0: none).
func wants(t *testing.T, err error, want int, call string, args ...any) {
	t.Helper()
	if tag.Num(err) != want || (err == nil) != (want == 0) {
		t.Fatalf("%s%v: error %v, want %d", call, args, err, want)
	}
}

// twig is a tree that is kept beside the one in the pages, without values: a leaf has no kids.
type twig struct {
	keys []int
	kids []*twig
}

// draw tells a tree: a leaf's keys in round brackets, an inner node's children and keys, as they follow each other, in square ones.
func (w *twig) draw() string {
	if w == nil {
		return ""
	}
	var parts []string
	for i, key := range w.keys {
		if len(w.kids) > 0 {
			parts = append(parts, w.kids[i].draw())
		}
		parts = append(parts, strconv.Itoa(key))
	}
	if len(w.kids) == 0 {
		return "(" + strings.Join(parts, " ") + ")"
	}
	return "[" + strings.Join(append(parts, w.kids[len(w.keys)].draw()), " ") + "]"
}

// grown answers the tree that is drawn.
func grown(drawing string) *twig {
	for _, mark := range "()[]" {
		drawing = strings.ReplaceAll(drawing, string(mark), " "+string(mark)+" ")
	}
	open := []*twig{{}}
	for _, word := range strings.Fields(drawing) {
		last := open[len(open)-1]
		switch word {
		case "(", "[":
			w := &twig{}
			last.kids, open = append(last.kids, w), append(open, w)
		case ")", "]":
			open = open[:len(open)-1]
		default:
			key, _ := strconv.Atoi(word)
			last.keys = append(last.keys, key)
		}
	}
	if len(open[0].kids) == 0 {
		return nil
	}
	return open[0].kids[0]
}

// counted draws a tree of which how many keys each leaf has is told (a square bracket around children), and all keys: the key
// between two children is the least one behind it.
func counted(counts string, keys []int) string {
	for _, mark := range "[]" {
		counts = strings.ReplaceAll(counts, string(mark), " "+string(mark)+" ")
	}
	var drawing []string
	first := true // whether what follows is a first child
	for _, word := range strings.Fields(counts) {
		if word != "]" && !first {
			drawing = append(drawing, strconv.Itoa(keys[0]))
		}
		first = word == "["
		if many, err := strconv.Atoi(word); err == nil {
			drawing = append(drawing, (&twig{keys: keys[:many]}).draw())
			keys = keys[many:]
		} else {
			drawing = append(drawing, word)
		}
	}
	return grown(strings.Join(drawing, " ")).draw()
}

// kidOf answers which child a key belongs to.
func (w *twig) kidOf(key int) int {
	at := 0
	for at < len(w.keys) && key >= w.keys[at] {
		at++
	}
	return at
}

// put does Put, as the chapter says.
func (w *twig) put(key int) *twig {
	if w == nil {
		return &twig{keys: []int{key}}
	}
	w.add(key)
	if len(w.keys) < 8 {
		return w
	}
	above := &twig{kids: []*twig{w}}
	above.part(0)
	return above
}

// add adds a key below: behind it w may have eight, but no child has.
func (w *twig) add(key int) {
	at := w.kidOf(key)
	if len(w.kids) == 0 {
		if at == 0 || w.keys[at-1] != key {
			w.keys = slices.Insert(w.keys, at, key)
		}
		return
	}
	if w.kids[at].add(key); len(w.kids[at].keys) == 8 {
		w.part(at)
	}
}

// part makes two of a child of eight keys.
func (w *twig) part(at int) {
	kid := w.kids[at]
	right := &twig{keys: slices.Clone(kid.keys[4:])}
	if len(kid.kids) > 0 {
		right = &twig{keys: slices.Clone(kid.keys[5:]), kids: slices.Clone(kid.kids[5:])}
		kid.kids = kid.kids[:5]
	}
	w.keys = slices.Insert(w.keys, at, kid.keys[4])
	w.kids = slices.Insert(w.kids, at+1, right)
	kid.keys = kid.keys[:4]
}

// cut does Delete of a key that is there, as the chapter says.
func (w *twig) cut(key int) *twig {
	w.take(key)
	if len(w.keys) > 0 {
		return w
	}
	if len(w.kids) > 0 {
		return w.kids[0]
	}
	return nil
}

// take takes a key out of its leaf: behind it w may have fewer than three, but no child has.
func (w *twig) take(key int) {
	at := w.kidOf(key)
	if len(w.kids) == 0 {
		w.keys = slices.Delete(w.keys, at-1, at)
		return
	}
	if w.kids[at].take(key); len(w.kids[at].keys) < 3 {
		w.meet(min(at, len(w.keys)-1))
	}
}

// meet puts the child ahead of a key together with the one behind it, or parts their keys again.
func (w *twig) meet(at int) {
	left, right := w.kids[at], w.kids[at+1]
	keys, kids := slices.Concat(left.keys, right.keys), slices.Concat(left.kids, right.kids)
	if len(kids) > 0 {
		keys = slices.Concat(left.keys, []int{w.keys[at]}, right.keys)
	}
	if len(keys) <= 7 {
		*left = twig{keys: keys, kids: kids}
		w.keys, w.kids = slices.Delete(w.keys, at, at+1), slices.Delete(w.kids, at+1, at+2)
		return
	}
	half := len(keys) / 2
	*left, *right, w.keys[at] = twig{keys: keys[:half:half]}, twig{keys: keys[half:]}, keys[half]
	if len(kids) > 0 {
		left.kids, right.kids = kids[:half+1:half+1], kids[half+1:]
		right.keys = right.keys[1:]
	}
}

// desk is a pager, a tree in it, and what is kept beside: the tree drawn by the chapter's words, its pairs, and what was committed.
type desk struct {
	t     *testing.T
	d     *disk.Disk
	p     *pager.Pager
	root  int
	w     *twig
	pairs map[int]string
	turn  int // tells one value of a key from another

	firmRoot    int
	firmDrawing string
	firmPairs   map[int]string
	firmPages   map[int]string
}

// fresh answers a disk and a pager that is made anew on it.
func fresh(t *testing.T, sectors int) (*disk.Disk, *pager.Pager) {
	t.Helper()
	d, err := disk.New(sectors)
	wants(t, err, 0, "disk.New", sectors)
	p, err := pager.Format(d)
	wants(t, err, 0, "Format")
	return d, p
}

// empty answers a desk with an empty tree on a new disk.
func empty(t *testing.T, sectors int) *desk {
	t.Helper()
	d, p := fresh(t, sectors)
	x := &desk{t: t, d: d, p: p, pairs: map[int]string{}}
	x.keep()
	return x
}

// planted answers a desk with a tree that is drawn, committed.
func planted(t *testing.T, sectors int, drawing string) *desk {
	t.Helper()
	x := empty(t, sectors)
	if x.w = grown(drawing); x.w != nil {
		x.root = x.plant(x.w)
	}
	x.commit()
	x.holds()
	return x
}

// plant lays the nodes of a tree, and answers its root.
func (x *desk) plant(w *twig) int {
	x.t.Helper()
	n := node.Node{Keys: w.keys}
	for _, kid := range w.kids {
		n.Kids = append(n.Kids, x.plant(kid))
	}
	if len(w.kids) == 0 {
		for _, key := range w.keys {
			x.pairs[key] = value(key, 0)
			n.Vals = append(n.Vals, x.pairs[key])
		}
	}
	return lay(x.t, x.p, n)
}

// lay makes a page of a node.
func lay(t *testing.T, p *pager.Pager, n node.Node) int {
	t.Helper()
	data, err := node.Lay(n)
	wants(t, err, 0, "Lay", n)
	return page(t, p, data)
}

// page makes a page.
func page(t *testing.T, p *pager.Pager, data string) int {
	t.Helper()
	sector, err := p.New(data)
	wants(t, err, 0, "New", data)
	return sector
}

// pages answers the data of each page of a tree. It fails the test, if one is no node, or is met twice.
func pages(t *testing.T, p *pager.Pager, root int) map[int]string {
	t.Helper()
	met := map[int]string{}
	for wait := []int{root}; len(wait) > 0; wait = wait[1:] {
		if wait[0] == 0 {
			continue
		}
		data, err := p.Load(wait[0])
		wants(t, err, 0, "Load", wait[0])
		n, err := node.Read(data)
		wants(t, err, 0, "Read", data)
		if _, is := met[wait[0]]; is {
			t.Fatalf("the page %d is used twice", wait[0])
		}
		met[wait[0]] = data
		wait = append(wait, n.Kids...)
	}
	return met
}

// look reads the nodes below a sector one by one, holds them against the chapter's words, and answers them drawn: keys from least
// on, below end, rising; three of them or more, but in the root; all leaves as deep (levels are told, the leaf's own first).
func (x *desk) look(sector, least, end int, levels *[]int, level int) *twig {
	x.t.Helper()
	data, err := x.p.Load(sector)
	wants(x.t, err, 0, "Load", sector)
	n, err := node.Read(data)
	wants(x.t, err, 0, "Read", data)
	if len(n.Keys) < 1 || len(n.Keys) > 7 || len(n.Keys) < 3 && level > 1 {
		x.t.Fatalf("the node %v on level %d has %d keys", n, level, len(n.Keys))
	}
	w := &twig{keys: n.Keys}
	for i, key := range n.Keys {
		if key < least || key >= end || i > 0 && key <= n.Keys[i-1] {
			x.t.Fatalf("the node %v has the key %d: want from %d on, below %d, rising", n, key, least, end)
		}
	}
	if len(n.Kids) == 0 {
		*levels = append(*levels, level)
		for i, key := range n.Keys {
			if n.Vals[i] != x.pairs[key] {
				x.t.Fatalf("the leaf %v has another value of %d than %q", n, key, x.pairs[key])
			}
		}
	}
	bounds := slices.Concat([]int{least}, n.Keys, []int{end})
	for i, kid := range n.Kids {
		w.kids = append(w.kids, x.look(kid, bounds[i], bounds[i+1], levels, level+1))
	}
	return w
}

// stands fails the test, if the tree's pages are others than the chapter's words say, or the pages in use others than the tree's.
func (x *desk) stands() {
	x.t.Helper()
	if (x.root == 0) != (x.w == nil) {
		x.t.Fatalf("the root is %d, the tree should be %q", x.root, x.w.draw())
	}
	var used bits.Set
	for sector := range pages(x.t, x.p, x.root) {
		used = bits.With(used, sector)
	}
	if x.p.Used() != used {
		x.t.Fatalf("used are %v, the tree's pages are %v", x.p.Used(), used)
	}
	if x.root == 0 {
		return
	}
	var levels []int
	w := x.look(x.root, 0, 1<<32, &levels, 1)
	if slices.Min(levels) != slices.Max(levels) {
		x.t.Fatalf("the leaves are on the levels %v", levels)
	}
	if w.draw() != x.w.draw() {
		x.t.Fatalf("the tree is %s, want %s", w.draw(), x.w.draw())
	}
}

// sorted answers the keys that are there.
func (x *desk) sorted() (keys []int) {
	for key := range x.pairs {
		keys = append(keys, key)
	}
	slices.Sort(keys)
	return keys
}

// gets fails the test, if Get of a key answers something else than what is kept beside.
func (x *desk) gets(key int) {
	x.t.Helper()
	val, err := Get(x.p, x.root, key)
	want, is := x.pairs[key]
	if is {
		wants(x.t, err, 0, "Get", key)
	} else {
		wants(x.t, err, 4, "Get", key)
	}
	if val != want {
		x.t.Fatalf("Get(%d) = %q, want %q", key, val, want)
	}
}

// ranges fails the test, if Range answers other pairs than what is kept beside.
func (x *desk) ranges(from, to int) {
	x.t.Helper()
	l, err := Range(x.p, x.root, from, to)
	wants(x.t, err, 0, "Range", from, to)
	var want []Pair
	for _, key := range x.sorted() {
		if key >= from && key < to {
			want = append(want, Pair{Key: key, Val: x.pairs[key]})
		}
	}
	if !slices.Equal(l, want) {
		x.t.Fatalf("Range(%d, %d) = %v, want %v", from, to, l, want)
	}
}

// holds fails the test, if the tree isn't what is kept beside it, or what was committed isn't there any more.
func (x *desk) holds() {
	x.t.Helper()
	x.stands()
	x.kept()
	for _, key := range x.sorted() {
		x.gets(key - 1)
		x.gets(key)
		x.gets(key + 1)
	}
	x.ranges(math.MinInt, math.MaxInt)
	x.ranges(0, 1<<32)
}

// kept fails the test, if a page of the root that was committed isn't what it was then.
func (x *desk) kept() {
	x.t.Helper()
	for sector, want := range x.firmPages {
		data, err := x.p.Load(sector)
		wants(x.t, err, 0, "Load", sector)
		if data != want {
			x.t.Fatalf("the page %d, which was committed, is %q, was %q", sector, data, want)
		}
	}
}

// put puts a value that the key hasn't had.
func (x *desk) put(key int) {
	x.t.Helper()
	x.turn++
	val := value(key, x.turn)
	root, err := Put(x.p, x.root, key, val)
	wants(x.t, err, 0, "Put", key)
	x.w, x.pairs[key], x.root = x.w.put(key), val, root
	x.stands()
	x.kept()
	x.gets(key)
}

// cut deletes a key: one that isn't there changes nothing.
func (x *desk) cut(key int) {
	x.t.Helper()
	if _, is := x.pairs[key]; !is {
		x.unchanged("Delete", func() { x.refuses(4, "Delete", key) })
		return
	}
	root, err := Delete(x.p, x.root, key)
	wants(x.t, err, 0, "Delete", key)
	delete(x.pairs, key)
	x.w, x.root = x.w.cut(key), root
	x.stands()
	x.kept()
	x.gets(key)
}

// does does a Put or a Delete, and leaves what is kept beside as it is.
func (x *desk) does(call string, key int) (int, error) {
	if call == "Put" {
		return Put(x.p, x.root, key, value(key, 1))
	}
	return Delete(x.p, x.root, key)
}

// refuses fails the test, if a Put or a Delete doesn't answer that error, or something beside it.
func (x *desk) refuses(want int, call string, key int) {
	x.t.Helper()
	root, err := x.does(call, key)
	wants(x.t, err, want, call, key)
	if root != 0 {
		x.t.Fatalf("%s(%d) answers the root %d beside an error", call, key, root)
	}
}

// content answers all sectors of a disk that is up.
func content(t *testing.T, d *disk.Disk) []api.Page {
	t.Helper()
	l := make([]api.Page, d.Size())
	for i := range l {
		p, err := d.Read(i)
		wants(t, err, 0, "disk.Read", i)
		l[i] = p
	}
	return l
}

// unchanged fails the test, if what is done changes the disk or the pager.
func (x *desk) unchanged(call string, deed func()) {
	x.t.Helper()
	was, soft, used, root, gen := content(x.t, x.d), x.d.Soft(), x.p.Used(), x.p.Root(), x.p.Gen()
	deed()
	if !slices.Equal(content(x.t, x.d), was) || x.d.Soft() != soft {
		x.t.Fatalf("%s writes on the disk", call)
	}
	if x.p.Used() != used || x.p.Root() != root || x.p.Gen() != gen {
		x.t.Fatalf("%s changes the pager", call)
	}
}

// keep keeps what is committed.
func (x *desk) keep() {
	x.t.Helper()
	x.firmRoot, x.firmDrawing, x.firmPairs, x.firmPages = x.root, x.w.draw(), map[int]string{}, pages(x.t, x.p, x.root)
	for key, val := range x.pairs {
		x.firmPairs[key] = val
	}
}

// commit commits the tree.
func (x *desk) commit() {
	x.t.Helper()
	wants(x.t, x.p.Commit(x.root), 0, "Commit", x.root)
	x.keep()
}

// back lets the tree be the one that was committed: the pager has been aborted, or opened anew.
func (x *desk) back() {
	x.t.Helper()
	if x.p.Root() != x.firmRoot {
		x.t.Fatalf("the pager's root is %d, %d was committed", x.p.Root(), x.firmRoot)
	}
	x.root, x.w, x.pairs = x.firmRoot, grown(x.firmDrawing), map[int]string{}
	for key, val := range x.firmPairs {
		x.pairs[key] = val
	}
	x.stands()
	x.kept()
}

// abort aborts.
func (x *desk) abort() {
	x.t.Helper()
	x.p.Abort()
	x.back()
}

// crash lets the power go, and the pager be opened when it is back.
func (x *desk) crash(mask uint32, torn int) {
	x.t.Helper()
	x.d.Crash(mask, torn)
	x.d.Up()
	p, err := pager.Open(x.d)
	wants(x.t, err, 0, "Open")
	x.p = p
	x.back()
}

// tens answers so many keys: 10, 20 and on.
func tens(many int) (keys []int) {
	for n := range many {
		keys = append(keys, 10*(n+1))
	}
	return keys
}

// countOf answers how many keys a tree has, whose leaves' counts are told.
func countOf(counts string) int {
	sum := 0
	for _, word := range strings.FieldsFunc(counts, func(r rune) bool { return strings.ContainsRune("[] ", r) }) {
		many, _ := strconv.Atoi(word)
		sum += many
	}
	return sum
}

// The chapter's example: Put of 5 into none, Get of 5: its value.
func TestExample(t *testing.T) {
	_, p := fresh(t, 240)
	root, err := Put(p, 0, 5, "twelve bytes")
	wants(t, err, 0, "Put", 5)
	if root != 2 {
		t.Errorf("Put(5) = %d: on a new disk the new page lies in 2", root)
	}
	if val, err := Get(p, root, 5); val != "twelve bytes" || err != nil {
		t.Errorf("Get(5) = %q, %v", val, err)
	}
	if data, err := p.Load(root); err != nil || data != "\x00\x01\x00\x00\x00\x05twelve bytes" {
		t.Errorf("the root's page is %q, %v", data, err)
	}
}

// The empty tree has nothing, and asks a pager just for Put.
func TestEmptyTree(t *testing.T) {
	d, p := fresh(t, 240)
	d.Crash(0, 0)
	x := empty(t, 240)
	for _, key := range append([]int{0, 5, 1<<32 - 1}, odd...) {
		for _, q := range []*pager.Pager{nil, p, x.p} {
			if val, err := Get(q, 0, key); val != "" || tag.Num(err) != 4 {
				t.Errorf("Get(%d) = %q, %v", key, val, err)
			}
			if root, err := Delete(q, 0, key); root != 0 || tag.Num(err) != 4 {
				t.Errorf("Delete(%d) = %d, %v", key, root, err)
			}
			if l, err := Range(q, 0, key, math.MaxInt); len(l) != 0 || err != nil {
				t.Errorf("Range(%d) = %v, %v", key, l, err)
			}
		}
	}
	x.holds()
	for _, key := range []int{0, 1, 5, 1<<32 - 2, 1<<32 - 1} {
		if root, err := Put(nil, 0, key, value(key, 0)); root != 0 || tag.Num(err) != 9 {
			t.Errorf("Put(%d) with a nil pager = %d, %v", key, root, err)
		}
		if root, err := Put(p, 0, key, value(key, 0)); root != 0 || tag.Num(err) != 7 {
			t.Errorf("Put(%d) on a disk that is down = %d, %v", key, root, err)
		}
		x.put(key)
		x.holds()
		x.abort()
		x.holds()
	}
}

// What a Put makes of a tree: the leaves' counts ahead of it, how many keys are less than the new one, the counts behind it.
func TestPutShapes(t *testing.T) {
	inner8 := "[4 4 4 4 4 4 4 4]"
	for _, c := range []struct {
		was   string
		above int
		want  string
	}{
		{"1", 0, "2"}, {"1", 1, "2"},
		{"6", 0, "7"}, {"6", 3, "7"}, {"6", 6, "7"}, // seven keys are one leaf
		{"7", 0, "[4 4]"}, {"7", 1, "[4 4]"}, {"7", 2, "[4 4]"}, {"7", 3, "[4 4]"}, {"7", 4, "[4 4]"}, {"7", 5, "[4 4]"}, {"7", 6, "[4 4]"}, {"7", 7, "[4 4]"},
		{"[4 4]", 0, "[5 4]"}, {"[4 4]", 3, "[5 4]"}, {"[4 4]", 4, "[5 4]"}, {"[4 4]", 5, "[4 5]"}, {"[4 4]", 8, "[4 5]"},
		{"[7 4]", 2, "[4 4 4]"}, {"[4 7]", 11, "[4 4 4]"}, {"[4 7 4]", 8, "[4 4 4 4]"}, {"[7 7]", 7, "[4 4 7]"}, {"[7 7]", 8, "[7 4 4]"},
		{"[4 4 4 4 4 4 7]", 31, "[4 4 4 4 4 4 4 4]"}, {"[7 4 4 4 4 4 4]", 0, "[4 4 4 4 4 4 4 4]"}, // seven keys are one inner node
		{"[7 4 4 4 4 4 4 4]", 0, "[[4 4 4 4 4] [4 4 4 4]]"},
		{"[4 4 4 7 4 4 4 4]", 13, "[[4 4 4 4 4] [4 4 4 4]]"},
		{"[4 4 4 4 7 4 4 4]", 17, "[[4 4 4 4 4] [4 4 4 4]]"},
		{"[4 4 4 4 4 7 4 4]", 24, "[[4 4 4 4 4] [4 4 4 4]]"},
		{"[4 4 4 4 4 4 4 7]", 35, "[[4 4 4 4 4] [4 4 4 4]]"},
		{"[4 4 4 4 4 4 4 6]", 34, "[4 4 4 4 4 4 4 7]"},
		{"[[7 4 4 4] [4 4 4 4]]", 0, "[[4 4 4 4 4] [4 4 4 4]]"}, // the root stays
		{"[[7 4 4 4 4 4 4 4] [3 3 3 3]]", 0, "[[4 4 4 4 4] [4 4 4 4] [3 3 3 3]]"},
		{"[[3 3 3 3] [4 4 4 4 4 4 4 7]]", 46, "[[3 3 3 3] [4 4 4 4 4] [4 4 4 4]]"},
		{"[[3 3 3 3] [4 4 7 4 4 4 4 4] [3 3 3 3]]", 22, "[[3 3 3 3] [4 4 4 4 4] [4 4 4 4] [3 3 3 3]]"},
		{ // each node on the way becomes two, the root too
			"[[7 3 3 3 3 3 3 3] " + strings.Repeat("[3 3 3 3] ", 7) + "]", 3,
			"[[[4 4 3 3 3] [3 3 3 3] [3 3 3 3] [3 3 3 3] [3 3 3 3]] [[3 3 3 3] [3 3 3 3] [3 3 3 3] [3 3 3 3]]]",
		},
		{ // the root alone has seven keys: it stays one
			"[[6 3 3 3 3 3 3 3] " + inner8 + strings.Repeat("[3 3 3 3] ", 6) + "]", 3,
			"[[7 3 3 3 3 3 3 3] " + inner8 + strings.Repeat("[3 3 3 3] ", 6) + "]",
		},
	} {
		keys := tens(countOf(c.was))
		x := planted(t, 240, counted(c.was, keys))
		x.put(10*c.above + 5)
		if want := counted(c.want, slices.Insert(slices.Clone(keys), c.above, 10*c.above+5)); x.w.draw() != want {
			t.Errorf("%s, Put of %d: %s, want %s", c.was, 10*c.above+5, x.w.draw(), want)
		}
		x.holds()
		x.abort()
		x.holds()
	}
}

// Put of a key that is there changes its value alone, in a leaf of seven keys, too: whichever key it is, no node becomes two.
func TestPutAgain(t *testing.T) {
	for _, counts := range []string{"1", "7", "[7 7]", "[7 7 7 7 7 7 7 7]", "[[7 3 3 3] [7 7 7 7 7 7 7 7]]"} {
		keys := tens(countOf(counts))
		x := planted(t, 240, counted(counts, keys))
		for _, key := range keys {
			x.put(key)
			x.put(key)
		}
		if x.w.draw() != counted(counts, keys) {
			t.Errorf("%s: the tree is %s", counts, x.w.draw())
		}
		x.holds()
		x.commit()
		x.holds()
	}
}

// What a Delete makes of a tree: the leaves' counts ahead of it, how many keys are less than the one that goes, the counts behind it.
// (No first key of a leaf goes, but in the first one: the key between two children would be another one than counted's.)
func TestDeleteShapes(t *testing.T) {
	for _, c := range []struct {
		was   string
		above int
		want  string
	}{
		{"7", 0, "6"}, {"7", 6, "6"}, {"4", 1, "3"}, {"3", 1, "2"}, {"2", 1, "1"}, {"2", 0, "1"}, // the root may have fewer than three
		{"[4 3]", 0, "[3 3]"}, {"[3 4]", 6, "[3 3]"}, {"[4 4 4]", 5, "[4 3 4]"}, // the fewest keys in a leaf
		{"[3 3]", 1, "5"}, {"[3 3]", 4, "5"}, {"[3 3]", 5, "5"}, // one key less: the root without keys goes
		{"[3 4]", 0, "6"}, {"[3 5]", 1, "7"}, {"[3 6]", 2, "[4 4]"}, {"[3 7]", 1, "[4 5]"}, // with the right neighbour
		{"[4 3]", 5, "6"}, {"[5 3]", 7, "7"}, {"[6 3]", 7, "[4 4]"}, {"[7 3]", 9, "[4 5]"}, // the last child, with the left one
		{"[3 3 3]", 1, "[5 3]"}, {"[3 3 3]", 4, "[3 5]"}, {"[3 3 3]", 7, "[3 5]"},
		{"[7 3 7]", 8, "[7 4 5]"}, {"[7 3 6]", 8, "[7 4 4]"}, {"[3 3 5]", 4, "[3 7]"}, // the right one, not the left one
		{"[3 5 3]", 9, "[3 7]"}, {"[3 6 3]", 10, "[3 4 4]"}, {"[3 7 3]", 11, "[3 4 5]"},
		{"[7 4 7]", 8, "[7 3 7]"}, // three are enough
		// inner nodes: four children ahead of it, of which two become one
		{"[[4 3 3 3] [3 3 3 3]]", 1, "[[3 3 3 3] [3 3 3 3]]"}, // the fewest keys in an inner node
		{"[[3 3 3 3 3] [3 3 3 3]]", 1, "[[5 3 3 3] [3 3 3 3]]"},
		{"[[3 3 3 3] [3 3 3 3]]", 1, "[5 3 3 3 3 3 3]"},
		{"[[3 3 3 3] [3 3 3 3 3]]", 1, "[5 3 3 3 3 3 3 3]"},
		{"[[3 3 3 3] [3 3 3 3 3 3]]", 1, "[[5 3 3 3 3] [3 3 3 3]]"},
		{"[[3 3 3 3] [3 3 3 3 3 3 3]]", 1, "[[5 3 3 3 3] [3 3 3 3 3]]"},
		{"[[3 3 3 3] [3 3 3 3 3 3 3 3]]", 1, "[[5 3 3 3 3 3] [3 3 3 3 3]]"},
		{"[[3 3 3 3] [3 3 3 3]]", 22, "[3 3 3 3 3 3 5]"},
		{"[[3 3 3 3 3] [3 3 3 3]]", 16, "[3 3 3 3 3 5 3 3]"},
		{"[[3 3 3 3 3 3] [3 3 3 3]]", 19, "[[3 3 3 3 3] [3 5 3 3]]"},
		{"[[3 3 3 3 3 3 3] [3 3 3 3]]", 22, "[[3 3 3 3 3] [3 3 5 3 3]]"},
		{"[[3 3 3 3 3 3 3 3] [3 3 3 3]]", 25, "[[3 3 3 3 3 3] [3 3 5 3 3]]"},
		{"[[3 3 3 3] [3 3 3 3] [3 3 3 3]]", 1, "[[5 3 3 3 3 3 3] [3 3 3 3]]"},
		{"[[3 3 3 3] [3 3 3 3] [3 3 3 3]]", 13, "[[3 3 3 3] [5 3 3 3 3 3 3]]"},
		{"[[3 3 3 3] [3 3 3 3] [3 3 3 3]]", 25, "[[3 3 3 3] [3 3 3 3 5 3 3]]"},
		{"[[3 3 3 3 3 3] [3 3 3 3] [3 3 3 3 3 3]]", 19, "[[3 3 3 3 3 3] [5 3 3 3 3] [3 3 3 3]]"}, // the right one, not the left one
		{"[[3 3 3 3] [3 3 3 3 3 3] [3 3 3 3]]", 31, "[[3 3 3 3] [3 3 3 3 3] [3 5 3 3]]"},
		{"[[3 6 3 3] [3 3 3 3]]", 1, "[[4 4 3 3] [3 3 3 3]]"}, // leaves that are parted again leave the inner node as it was
		{ // on each level two become one, and the root goes
			"[" + strings.Repeat("[[3 3 3 3] [3 3 3 3] [3 3 3 3] [3 3 3 3]]", 2) + "]", 1,
			"[[5 3 3 3 3 3 3] [3 3 3 3] [3 3 3 3] [3 3 3 3] [3 3 3 3] [3 3 3 3] [3 3 3 3]]",
		},
		{ // on each level two become one, and the root stays
			"[" + strings.Repeat("[[3 3 3 3] [3 3 3 3] [3 3 3 3] [3 3 3 3]]", 3) + "]", 143,
			"[[[3 3 3 3] [3 3 3 3] [3 3 3 3] [3 3 3 3]] [[3 3 3 3] [3 3 3 3] [3 3 3 3] [3 3 3 3] [3 3 3 3] [3 3 3 3] [3 3 3 3 3 3 5]]]",
		},
	} {
		keys := tens(countOf(c.was))
		x := planted(t, 240, counted(c.was, keys))
		x.cut(keys[c.above])
		if want := counted(c.want, slices.Delete(slices.Clone(keys), c.above, c.above+1)); x.w.draw() != want {
			t.Errorf("%s, Delete of %d: %s, want %s", c.was, keys[c.above], x.w.draw(), want)
		}
		x.holds()
		x.abort()
		x.holds()
	}
}

// A node that is changed is a new page, and the old one goes: also in a tree that wasn't committed no page is overwritten while it is in
// use, and none that has gone stays in use.
func TestChangedNodeIsNewPage(t *testing.T) {
	x := empty(t, 6)
	deeds := []func(int){x.put, x.put, x.put, x.cut, x.put, x.cut, x.put}
	for i, key := range []int{5, 6, 5, 6, 7, 5, 8} {
		was := x.root
		if deeds[i](key); x.root == was {
			t.Errorf("the root's page is changed, and is %d as it was", was)
		}
		if x.p.Used() != bits.With(bits.Set{}, x.root) {
			t.Errorf("the root is %d, used are %v", x.root, x.p.Used())
		}
		if i == 3 {
			x.commit()
		}
	}
}

// The last key that is deleted leaves no tree, and no page in use; then the tree can grow again.
func TestDeleteLast(t *testing.T) {
	x := empty(t, 6)
	for range 3 {
		x.put(7)
		x.cut(7)
		if x.root != 0 || x.p.Used() != (bits.Set{}) {
			t.Fatalf("behind the last key the root is %d, used are %v", x.root, x.p.Used())
		}
		x.put(7)
		x.commit()
		x.cut(7)
		x.holds()
		x.abort()
		x.cut(7)
		x.commit()
		x.holds()
	}
}

// The first key of a leaf stands above, too: it stays there when it is deleted, and is put behind it again.
func TestFirstKeyOfLeaf(t *testing.T) {
	x := planted(t, 240, "[(10 20 30 40) 50 (50 60 70 80) 90 (90 100 110)]")
	for _, c := range []struct {
		deed func(int)
		key  int
		want string
	}{
		{x.cut, 50, "[(10 20 30 40) 50 (60 70 80) 90 (90 100 110)]"},
		{x.cut, 50, "[(10 20 30 40) 50 (60 70 80) 90 (90 100 110)]"},
		{x.put, 55, "[(10 20 30 40) 50 (55 60 70 80) 90 (90 100 110)]"},
		{x.put, 50, "[(10 20 30 40) 50 (50 55 60 70 80) 90 (90 100 110)]"},
		{x.put, 49, "[(10 20 30 40 49) 50 (50 55 60 70 80) 90 (90 100 110)]"},
		{x.cut, 50, "[(10 20 30 40 49) 50 (55 60 70 80) 90 (90 100 110)]"},
		{x.cut, 55, "[(10 20 30 40 49) 50 (60 70 80) 90 (90 100 110)]"},
		{x.cut, 90, "[(10 20 30 40 49) 50 (60 70 80 100 110)]"},
		{x.put, 90, "[(10 20 30 40 49) 50 (60 70 80 90 100 110)]"},
		{x.cut, 10, "[(20 30 40 49) 50 (60 70 80 90 100 110)]"},
		{x.cut, 20, "[(30 40 49) 50 (60 70 80 90 100 110)]"},
		{x.cut, 30, "[(40 49 60 70) 80 (80 90 100 110)]"},
		{x.cut, 80, "[(40 49 60 70) 80 (90 100 110)]"},
		{x.cut, 40, "[(49 60 70) 80 (90 100 110)]"},
		{x.put, 80, "[(49 60 70) 80 (80 90 100 110)]"},
		{x.cut, 110, "[(49 60 70) 80 (80 90 100)]"},
		{x.cut, 80, "(49 60 70 90 100)"},
	} {
		c.deed(c.key)
		if x.w.draw() != c.want {
			t.Fatalf("%d: the tree is %s, want %s", c.key, x.w.draw(), c.want)
		}
		x.holds()
	}
	// A key between inner nodes, whose like was deleted, comes down and goes up as it is.
	y := planted(t, 240, counted("[[3 3 3 3] [3 3 3 3 3 3]]", tens(30)))
	y.cut(130)
	y.cut(140)
	y.cut(70)
	y.cut(40)
	y.put(130)
	y.holds()
}

// The least key and the greatest one.
func TestEdgeKeys(t *testing.T) {
	x := empty(t, 240)
	for _, key := range []int{1<<32 - 1, 0, 1<<32 - 2, 1, 1 << 31, 1<<31 - 1, 255, 256, 1 << 24, 1<<24 - 1, 65535, 65536} {
		x.put(key)
		x.holds()
	}
	x.ranges(1<<32-1, 1<<32)
	x.ranges(1<<32-1, 1<<32-1)
	x.ranges(0, 1)
	x.ranges(0, 0)
	x.commit()
	for _, key := range []int{0, 1<<32 - 1, 1, 1 << 31} {
		x.cut(key)
		x.holds()
		x.put(key)
		x.holds()
		x.cut(key)
	}
}

// Range from each place to each place: below all, on keys, between them, above all, and from above to.
func TestRangeBounds(t *testing.T) {
	for _, counts := range []string{"1", "7", "[3 4]", "[3 5 3]", "[[3 3 3 3] [4 3 3 3]]"} {
		keys := tens(countOf(counts))
		x := planted(t, 240, counted(counts, keys))
		places := []int{math.MinInt, math.MinInt + 1, -1 << 32, -1, 0, 1, 1<<32 - 1, 1 << 32, 1<<32 + 10, math.MaxInt - 1, math.MaxInt}
		for _, key := range keys {
			places = append(places, key-1, key, key+1)
		}
		x.unchanged("Range", func() {
			for _, from := range places {
				for _, to := range places {
					x.ranges(from, to)
				}
			}
		})
		x.cut(keys[len(keys)/2])
		x.ranges(keys[len(keys)/2], math.MaxInt)
		x.ranges(math.MinInt, keys[len(keys)/2])
	}
}

// Many keys, rising, falling and mixed, put and deleted in each of these orders, held against what is kept beside behind each call.
func TestOrders(t *testing.T) {
	const many = 120
	next := numbers(7)
	mixed := func() []int {
		l := tens(many)
		for i := range l {
			j := i + next()%(many-i)
			l[i], l[j] = l[j], l[i]
		}
		return l
	}
	falling := tens(many)
	slices.Reverse(falling)
	orders := [][]int{tens(many), falling, mixed()}
	for i, in := range orders {
		for j, out := range orders {
			x := empty(t, 240)
			for n, key := range in {
				x.put(key)
				if n%(5+i) == 0 {
					x.holds()
				}
			}
			x.commit()
			x.holds()
			for n, key := range out {
				x.cut(key)
				x.cut(key)
				if n%(4+j) == 0 {
					x.holds()
				}
			}
			if x.root != 0 {
				t.Fatalf("all keys are deleted, and the root is %d", x.root)
			}
			x.abort()
			x.holds()
		}
	}
}

// Puts, deletes, commits, aborts and losses of power in many orders, on keys of a narrow room and of a wide one. Each list of pairs
// that was answered on the way keeps what it has.
func TestManyDeeds(t *testing.T) {
	for seed := range uint64(12) {
		next := numbers(seed)
		room, gap := []int{12, 40, 150, 400}[seed%4], []int{1, 9, 1 << 23}[seed%3]
		x := empty(t, 240)
		var lists, copies [][]Pair
		for n := range 500 {
			key := next() % room * gap
			puts := 4 + n/60%5 // more puts at some times, more deletes at others
			switch what := next() % 40; {
			case what == 0:
				x.commit()
			case what == 1:
				x.abort()
			case what == 2:
				x.crash(uint32(next()), next())
			case what < 3+4*puts:
				x.put(key)
			default:
				x.cut(key)
			}
			for _, key := range []int{key - 1, key, key + 1, next() % room * gap} {
				x.gets(key)
			}
			x.ranges(key, key+next()%(room*gap))
			if n%25 == 0 {
				x.holds()
				l, _ := Range(x.p, x.root, 0, 1<<32)
				lists, copies = append(lists, l), append(copies, slices.Clone(l))
			}
		}
		for i := range lists {
			if !slices.Equal(lists[i], copies[i]) {
				t.Fatalf("the list %v has become %v", copies[i], lists[i])
			}
		}
	}
}

// What a call answers hangs on its arguments and on what the pager has been through: done twice, all is alike, sector by sector.
func TestDoneTwice(t *testing.T) {
	run := func() (roots []int, l []api.Page) {
		next := numbers(99)
		x := empty(t, 200)
		for n := range 300 {
			if key := next() % 90; next()%3 > 0 {
				x.put(key)
			} else {
				x.cut(key)
			}
			if n%50 == 49 {
				x.commit()
			}
			roots = append(roots, x.root)
		}
		return roots, content(t, x.d)
	}
	roots, l := run()
	again, m := run()
	if !slices.Equal(roots, again) || !slices.Equal(l, m) {
		t.Errorf("the same calls answer other roots, or write other sectors")
	}
}

// Keys that may not be, and values of another size, are refused at each call, and change nothing.
func TestWrongArguments(t *testing.T) {
	for _, counts := range []string{"", "1", "7", "[7 7]", "[[3 3 3 3] [7 7 7 7 7 7 7 7]]"} {
		x := empty(t, 240)
		if counts != "" {
			x = planted(t, 240, counted(counts, tens(countOf(counts))))
		}
		x.unchanged("a refused call", func() {
			for _, key := range odd {
				x.refuses(1, "Put", key)
				x.refuses(4, "Delete", key)
				x.gets(key)
			}
			for _, key := range []int{0, 10, 15, 1<<32 - 1, -1, 1 << 32} {
				for _, size := range []int{0, 1, 11, 13, 24, 120, 256 + 12, 1 << 16} {
					if root, err := Put(x.p, x.root, key, strings.Repeat("v", size)); root != 0 || tag.Num(err) != 1 {
						t.Errorf("Put(%d) of %d bytes = %d, %v", key, size, root, err)
					}
				}
			}
		})
		x.holds()
	}
}

// fails fails the test, if a call at a root doesn't answer that error, or something beside it. Range is asked for all keys.
func fails(t *testing.T, p *pager.Pager, root, key, want int) {
	t.Helper()
	val, err := Get(p, root, key)
	wants(t, err, want, "Get", root, key)
	l, err := Range(p, root, math.MinInt, math.MaxInt)
	wants(t, err, want, "Range", root)
	put, err := Put(p, root, key, value(key, 0))
	wants(t, err, want, "Put", root, key)
	cut, err := Delete(p, root, key)
	wants(t, err, want, "Delete", root, key)
	if val != "" || len(l) != 0 || put != 0 || cut != 0 {
		t.Fatalf("at the root %d calls answer %q, %v, %d, %d beside an error", root, val, l, put, cut)
	}
}

// A nil pager: ErrState at each root but the empty one; a root that isn't a page: chapter 8's ErrNone.
func TestWrongRoots(t *testing.T) {
	for _, root := range []int{-1, 1, 2, 5, 239, 240, math.MinInt, math.MaxInt} {
		for _, key := range []int{0, 5, 1<<32 - 1} {
			fails(t, nil, root, key, 9)
		}
	}
	x := planted(t, 20, counted("[4 4]", tens(8)))
	spare := page(t, x.p, "a page")
	wants(t, x.p.Drop(spare), 0, "Drop", spare)
	for _, root := range []int{spare, 1, 10, 19, 20, 21, 239, 240, 256 + x.root, -1, -x.root, 1<<32 + x.root, math.MinInt, math.MaxInt} {
		x.unchanged("a refused call", func() { fails(t, x.p, root, 10, 4) })
	}
	x.holds()
	// A child that isn't used: chapter 8's ErrNone.
	root := lay(t, x.p, node.Node{Keys: []int{20}, Kids: []int{19, x.root}})
	fails(t, x.p, root, 10, 4)
	// A superblock may name sectors that the disk hasn't: the disk's ErrArg.
	s, err := super.Best(x.d)
	wants(t, err, 0, "Best")
	s.Gen, s.Used = s.Gen+1, bits.With(s.Used, 20)
	wants(t, super.Switch(x.d, s), 0, "Switch", s)
	p, err := pager.Open(x.d)
	wants(t, err, 0, "Open")
	fails(t, p, 20, 10, 1)
}

// At a root that goes, what hangs on it is there till a commit; it can't be changed any more, as it can't go again.
func TestRootThatGoes(t *testing.T) {
	for _, counts := range []string{"1", "4", "7", "[4 4]", "[7 7]", "[[3 3 3 3] [7 7 7 7 7 7 7 7]]"} {
		keys := tens(countOf(counts))
		x := planted(t, 240, counted(counts, keys))
		old, _ := Range(x.p, x.root, 0, 1<<32)
		x.put(5)
		x.put(10)
		l, err := Range(x.p, x.firmRoot, 0, 1<<32)
		if err != nil || !slices.Equal(l, old) {
			t.Errorf("Range of the root that was = %v, %v, want %v", l, err, old)
		}
		if val, err := Get(x.p, x.firmRoot, 10); val != value(10, 0) || err != nil {
			t.Errorf("Get of the root that was = %q, %v", val, err)
		}
		for _, key := range []int{10, keys[len(keys)-1]} {
			if root, err := Put(x.p, x.firmRoot, key, value(key, 9)); root != 0 || tag.Num(err) != 4 {
				t.Errorf("Put at a root that goes = %d, %v", root, err)
			}
			x.abort()
			x.put(5)
			if root, err := Delete(x.p, x.firmRoot, key); root != 0 || tag.Num(err) != 4 {
				t.Errorf("Delete at a root that goes = %d, %v", root, err)
			}
			x.abort()
			x.put(5)
		}
		x.abort()
		x.holds()
	}
}

// Pages that are no nodes: ErrForm; a frame whose sum is another one: chapter 8's ErrSum.
func TestPagesThatAreNoNodes(t *testing.T) {
	for _, data := range []string{"", "\x00", "\x02\x00", "page", "\x00\x01\x00\x00\x00\x05", "\x01\x00\x02", "\x01\x01\x00\x00\x00\x05\x02\x02", strings.Repeat("\xff", 120)} {
		x := planted(t, 20, counted("4", tens(4)))
		bad := page(t, x.p, data)
		x.unchanged("a refused call", func() { fails(t, x.p, bad, 10, 2) })
		x.abort()
		for _, below := range []node.Node{{Keys: []int{20}, Kids: []int{bad, 2}}, {Keys: []int{5}, Kids: []int{2, bad}}} {
			page(t, x.p, data)
			root := lay(t, x.p, below)
			fails(t, x.p, root, 10, 2)
			x.abort()
		}
		x.holds()
	}
	x := planted(t, 20, counted("[4 4]", tens(8)))
	wants(t, x.d.Write(x.root, api.Page{1, 2, 3}), 0, "disk.Write", x.root)
	fails(t, x.p, x.root, 10, 3)
	wants(t, x.d.Write(x.root, api.Page{}), 0, "disk.Write", x.root)
	fails(t, x.p, x.root, 10, 3)
}

// A neighbour that is no node, isn't used, is of another kind than the child, or has keys that don't go together with the child's: an
// error, and none panics.
func TestNeighbours(t *testing.T) {
	leaf := node.Node{Keys: []int{10, 20, 30}, Vals: []string{value(10, 0), value(20, 0), value(30, 0)}}
	for _, c := range []struct {
		data string
		want int
	}{
		{"junk", 2}, {"\x01\x01\x00\x00\x01\x00\x04\x05", 2}, {"", 2}, {"\x00\x01\x00\x00\x00\x0atwelve bytes", 2},
	} {
		_, p := fresh(t, 20)
		bad, kid := page(t, p, c.data), lay(t, p, leaf)
		for _, n := range []node.Node{{Keys: []int{100}, Kids: []int{kid, bad}}, {Keys: []int{5}, Kids: []int{bad, kid}}} {
			cut, err := Delete(p, lay(t, p, n), 20)
			wants(t, err, c.want, "Delete", c.data)
			if cut != 0 {
				t.Errorf("Delete answers %d beside an error", cut)
			}
		}
	}
	_, p := fresh(t, 20)
	_, err := Delete(p, lay(t, p, node.Node{Keys: []int{100}, Kids: []int{lay(t, p, leaf), 19}}), 20)
	wants(t, err, 4, "Delete")
}

// chain answers the root of nodes that hang on one another, so many levels of them, the last one a leaf of seven keys: in each inner
// node the next one stands ahead of its three keys, behind them stand leaves of one key. A full one's inner nodes have seven keys; what
// stands behind them isn't there, as no Put on the way asks for it.
func chain(t *testing.T, p *pager.Pager, levels int, full bool) int {
	t.Helper()
	sector := lay(t, p, node.Node{Keys: tens(7), Vals: slices.Repeat([]string{"twelve bytes"}, 7)})
	for level := levels - 1; level > 0; level-- {
		n := node.Node{Kids: []int{sector}}
		for i := range 3 {
			n.Keys = append(n.Keys, 1000*(levels-level)+i)
			n.Kids = append(n.Kids, lay(t, p, node.Node{Keys: n.Keys[i:], Vals: []string{"twelve bytes"}}))
		}
		for i := range 4 {
			if full {
				n.Keys, n.Kids = append(n.Keys, 1000*(levels-level)+3+i), append(n.Kids, 230+i)
			}
		}
		sector = lay(t, p, n)
	}
	return sector
}

// Twelve levels are a tree, thirteen aren't: ErrForm, also of a Put that would make the thirteenth.
func TestLevels(t *testing.T) {
	for levels := 1; levels <= 12; levels++ {
		_, p := fresh(t, 240)
		root := chain(t, p, levels, false)
		if val, err := Get(p, root, 70); val != "twelve bytes" || err != nil {
			t.Errorf("%d levels: Get = %q, %v", levels, val, err)
		}
		if l, err := Range(p, root, 0, 1<<32); len(l) != 7+3*(levels-1) || err != nil {
			t.Errorf("%d levels: Range = %v, %v", levels, l, err)
		}
		cut, err := Delete(p, root, 70)
		wants(t, err, 0, "Delete", levels)
		if _, err := Get(p, cut, 70); tag.Num(err) != 4 {
			t.Errorf("%d levels: Get of what was deleted: %v", levels, err)
		}
		put, err := Put(p, cut, 75, "other  bytes")
		wants(t, err, 0, "Put", levels)
		if val, err := Get(p, put, 75); val != "other  bytes" || err != nil {
			t.Errorf("%d levels: Get of what was put = %q, %v", levels, val, err)
		}
	}
	// On the twelfth level leaves are put together, too.
	_, p := fresh(t, 240)
	root := chain(t, p, 12, true)
	for _, key := range tens(6) {
		var err error
		root, err = Delete(p, root, key)
		wants(t, err, 0, "Delete", key)
	}
	if l, err := Range(p, root, 0, 1001); len(l) != 2 || l[0].Key != 70 || l[1].Key != 1000 || err != nil {
		t.Errorf("behind deletes on the twelfth level Range = %v, %v", l, err)
	}
	for _, levels := range []int{13, 14, 30} {
		_, p := fresh(t, 240)
		root := chain(t, p, levels, false)
		used := p.Used()
		fails(t, p, root, 70, 2)
		if p.Used() != used {
			t.Errorf("%d levels: a refused call changes the pager", levels)
		}
	}
	for _, levels := range []int{1, 2, 11, 12, 13} {
		_, p := fresh(t, 240)
		top, err := Put(p, chain(t, p, levels, true), 5, "twelve bytes")
		if levels > 11 {
			wants(t, err, 2, "Put", levels)
			if top != 0 {
				t.Errorf("%d full levels: Put answers %d beside an error", levels, top)
			}
			continue
		}
		wants(t, err, 0, "Put", levels)
		if val, err := Get(p, top, 5); val != "twelve bytes" || err != nil {
			t.Errorf("%d full levels: Get behind a Put = %q, %v", levels, val, err)
		}
	}
}

// Nodes that hang on one another in a ring have no leaf: ErrForm, in little time, however many ways lead on.
func TestRings(t *testing.T) {
	_, p := fresh(t, 240)
	leaf := lay(t, p, node.Node{Keys: []int{10}, Vals: []string{"twelve bytes"}})
	for _, c := range []struct{ left, right, key int }{{3, leaf, 4}, {leaf, 3, 5}, {3, 4, 4}, {3, 4, 5}, {4, 3, 4}, {4, 3, 5}} {
		ring := lay(t, p, node.Node{Keys: []int{5}, Kids: []int{c.left, c.right}})
		other := lay(t, p, node.Node{Keys: []int{5}, Kids: []int{3, 4}})
		if ring != 3 || other != 4 {
			t.Fatalf("the nodes' pages are %d and %d, not 3 and 4", ring, other)
		}
		fails(t, p, ring, c.key, 2)
		wants(t, p.Drop(ring), 0, "Drop")
		wants(t, p.Drop(other), 0, "Drop")
	}
	// Eight nodes, each above all of them: 8 to the 12th ways.
	_, p = fresh(t, 240)
	for i := range 8 {
		n := node.Node{Kids: []int{2, 3, 4, 5, 6, 7, 8, 9}}
		for j := range 7 {
			n.Keys = append(n.Keys, 1000*(j+1)+10*i)
		}
		lay(t, p, n)
	}
	for root := 2; root < 10; root++ {
		for _, key := range []int{0, 1000, 3333, 1<<32 - 1} {
			fails(t, p, root, key, 2)
		}
	}
	// Nodes on eleven levels, each above all of the next level, with leaves at the end: as many ways, and no ring.
	_, p = fresh(t, 240)
	var below []int
	for i := range 8 {
		below = append(below, lay(t, p, node.Node{Keys: []int{100 * i}, Vals: []string{"twelve bytes"}}))
	}
	for level := range 11 {
		var row []int
		for i := range 8 {
			n := node.Node{Kids: below}
			for j := range 7 {
				n.Keys = append(n.Keys, 100*(j+1)+level+i)
			}
			row = append(row, lay(t, p, n))
		}
		below = row
	}
	l, err := Range(p, below[0], math.MinInt, math.MaxInt)
	wants(t, err, 0, "Range")
	if !slices.IsSortedFunc(l, func(a, b Pair) int { return a.Key - b.Key }) {
		t.Errorf("Range = %v", l)
	}
}

// Whatever nodes hang on whatever others, each call ends, and answers nothing beside an error.
func TestWildNodes(t *testing.T) {
	next := numbers(2026)
	for range 150 {
		_, p := fresh(t, 20)
		for range 14 {
			var n node.Node
			key := next() % 4
			for range next() % 8 {
				n.Keys = append(n.Keys, key)
				key += 1 + next()%6
			}
			if next()%3 == 0 || len(n.Keys) == 0 {
				for range n.Keys {
					n.Vals = append(n.Vals, "twelve bytes")
				}
			}
			for kid := 2 + next()%6; len(n.Vals) == 0 && len(n.Keys) > 0 && len(n.Kids) <= len(n.Keys); kid++ {
				n.Kids = append(n.Kids, kid)
			}
			lay(t, p, n)
		}
		wants(t, p.Commit(2), 0, "Commit")
		used, gen := p.Used(), p.Gen()
		for root := range 18 {
			for key := range 12 {
				put, err := Put(p, root, key, "twelve bytes")
				if (err == nil) == (put == 0) {
					t.Fatalf("Put = %d, %v", put, err)
				}
				p.Abort()
				cut, err := Delete(p, root, key)
				if err != nil && cut != 0 {
					t.Fatalf("Delete = %d, %v", cut, err)
				}
				p.Abort()
				if val, err := Get(p, root, key); (err == nil) == (val == "") {
					t.Fatalf("Get = %q, %v", val, err)
				}
				if l, err := Range(p, root, key, key+5); err != nil && len(l) > 0 {
					t.Fatalf("Range = %v, %v", l, err)
				}
			}
		}
		if p.Used() != used || p.Gen() != gen || p.Root() != 2 {
			t.Fatalf("behind Abort the pager isn't what was committed")
		}
	}
}

// A disk that is down: ErrDown of all calls, but of an empty tree; what was committed is there when it is up again.
func TestDiskThatIsDown(t *testing.T) {
	for _, counts := range []string{"1", "7", "[4 4]", "[[3 3 3 3] [7 7 7 7 7 7 7 7]]"} {
		x := planted(t, 240, counted(counts, tens(countOf(counts))))
		x.put(5)
		x.d.Crash(1, 70)
		for _, key := range []int{0, 5, 10, 15, 1<<32 - 1} {
			fails(t, x.p, x.firmRoot, key, 7)
			fails(t, x.p, x.root, key, 7)
		}
		if root, err := Put(x.p, 0, 5, "twelve bytes"); root != 0 || tag.Num(err) != 7 {
			t.Errorf("Put into none on a disk that is down = %d, %v", root, err)
		}
		x.crash(0, 0)
		x.holds()
	}
}

// A wrong key or a wrong value is named first, whatever else is wrong.
func TestWhichErrorFirst(t *testing.T) {
	x := planted(t, 10, counted("[4 4]", tens(8)))
	x.fill(0)
	wrong := func(p *pager.Pager) {
		t.Helper()
		for _, root := range []int{0, x.firmRoot, -1, 1, 9, 100, 240} {
			for _, key := range odd {
				if put, err := Put(p, root, key, "twelve bytes"); put != 0 || tag.Num(err) != 1 {
					t.Errorf("Put of %d at %d = %d, %v", key, root, put, err)
				}
			}
			for _, val := range []string{"", "eleven byte", "thirteen byte"} {
				if put, err := Put(p, root, 5, val); put != 0 || tag.Num(err) != 1 {
					t.Errorf("Put of %q at %d = %d, %v", val, root, put, err)
				}
			}
		}
	}
	x.unchanged("a refused call", func() { wrong(x.p) })
	if put, err := Put(x.p, 0, 5, "twelve bytes"); put != 0 || tag.Num(err) != 6 {
		t.Errorf("Put into none on a full disk = %d, %v", put, err)
	}
	x.refuses(6, "Put", 5)
	x.abort()
	x.fill(0)
	x.unchanged("Delete", func() { // a key that isn't there needs no room
		for _, key := range append([]int{0, 5, 15, 90, 1<<32 - 1}, odd...) {
			x.refuses(4, "Delete", key)
		}
	})
	x.refuses(6, "Delete", 10)
	x.d.Crash(0, 0)
	wrong(x.p)
	wrong(nil)
	x.crash(0, 0)
	x.holds()
}

// fill makes pages till there is room for so many more.
func (x *desk) fill(room int) {
	x.t.Helper()
	for bits.Count(bits.Both(x.p.Used(), used(x.firmPages))) < x.d.Size()-2-room {
		page(x.t, x.p, "filler")
	}
}

// tight does a Put or a Delete on a disk with ever more room, from none on, till it goes well. What Abort leaves behind each refusal is
// what was committed, whole. As many pages as are changed must be enough: fewer can't be.
func (x *desk) tight(call string, key int) {
	x.t.Helper()
	x.commit()
	for room := 0; ; room++ {
		x.fill(room)
		root, err := x.does(call, key)
		if err != nil {
			wants(x.t, err, 6, call, key)
			if root != 0 {
				x.t.Fatalf("%s(%d) = %d beside an error", call, key, root)
			}
			x.kept()
			x.abort()
			continue
		}
		changed := 0
		for sector := range pages(x.t, x.p, root) {
			if _, was := x.firmPages[sector]; !was {
				changed++
			}
		}
		if changed != room {
			x.t.Fatalf("%s(%d) with room for %d pages goes well, and %d are changed", call, key, room, changed)
		}
		x.kept()
		x.abort()
		return
	}
}

// used answers the set of the sectors that pages lie in.
func used(l map[int]string) (s bits.Set) {
	for sector := range l {
		s = bits.With(s, sector)
	}
	return s
}

// A disk that is full at each place of a Put and of a Delete.
func TestFullDisk(t *testing.T) {
	for _, counts := range []string{
		"", "1", "7", "[4 4]", "[7 7]", "[3 3]", "[3 6]", "[6 3]", "[3 7 3]", "[7 7 7 7 7 7 7 7]",
		"[[3 3 3 3] [3 3 3 3]]", "[[3 3 3 3] [3 3 3 3 3 3]]", "[[3 3 3 3] [3 3 3 3] [7 7 7 7 7 7 7 7]]",
		"[[7 3 3 3 3 3 3 3] " + strings.Repeat("[3 3 3 3] ", 7) + "]",
	} {
		x := empty(t, 70)
		if counts != "" {
			x = planted(t, 70, counted(counts, tens(countOf(counts))))
		}
		x.tight("Put", 5)
		for _, key := range x.sorted() {
			x.tight("Put", key)
			x.tight("Put", key+5)
			x.tight("Delete", key)
		}
		x.holds()
	}
}

// A small disk is filled till no key goes in any more, with a commit behind each key, or behind many: what was committed stays, whole.
func TestFill(t *testing.T) {
	for _, sectors := range []int{3, 4, 5, 6, 9, 20, 60, 120} {
		for _, batch := range []int{1, 3, 7, 1000} {
			x := empty(t, sectors)
			refused := 0
			for n := 0; refused < 3; n++ {
				key := 10 * (n * 37 % 1009)
				root, err := Put(x.p, x.root, key, value(key, 0))
				if err == nil {
					x.w, x.pairs[key], x.root = x.w.put(key), value(key, 0), root
					if x.stands(); n%batch == batch-1 {
						x.commit()
					}
					continue
				}
				wants(t, err, 6, "Put", key)
				if root != 0 {
					t.Fatalf("Put(%d) = %d beside an error", key, root)
				}
				x.kept()
				if refused++; refused == 2 {
					x.crash(uint32(n), n)
				} else {
					x.abort()
				}
				x.holds()
			}
		}
	}
}

// Get and Range change nothing: no sector, nothing of the pager.
func TestReadingChangesNothing(t *testing.T) {
	x := planted(t, 240, counted("[[3 4 5 6] [7 7 3 3] [4 4 4 4]]", tens(56)))
	x.put(15)
	x.unchanged("a reading call", func() {
		for key := range 600 {
			x.gets(key)
			x.ranges(key, 2*key)
		}
	})
}

// The lists that Range answers share nothing with one another, spare room included.
func TestListsShareNothing(t *testing.T) {
	x := planted(t, 240, counted("[[3 4 5 6] [7 7 3 3]]", tens(38)))
	a, err := Range(x.p, x.root, 0, 1<<32)
	wants(t, err, 0, "Range")
	b, err := Range(x.p, x.root, 0, 1<<32)
	wants(t, err, 0, "Range")
	was := slices.Clone(b)
	room := a[:cap(a)]
	for i := range room {
		room[i] = Pair{Key: -1, Val: "mark"}
	}
	if !slices.Equal(b, was) {
		t.Errorf("a list that was answered is changed with another one: %v", b)
	}
	x.holds()
}
