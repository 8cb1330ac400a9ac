package led

import (
	"math"
	"slices"
	"strings"
	"testing"

	"dynamo/api"
	"dynamo/bits"
	"dynamo/check"
	"dynamo/disk"
	"dynamo/frame"
	"dynamo/node"
	"dynamo/pager"
	"dynamo/super"
	"dynamo/tag"
	"dynamo/tree"
)

// last is the greatest key.
const last = 4294967295

// The kinds of the frames.
const (
	superKind = 1
	pageKind  = 2
)

// odd are keys that may not be.
var odd = []int{-1, -2, -256, -1 << 31, -1 << 32, math.MinInt + 1, math.MinInt, last + 1, last + 2, 1<<32 + 5, 1 << 40, 1 << 62, math.MaxInt - 1, math.MaxInt}

// numbers answers a function that makes numbers from 0 on, always the same ones of one seed.
func numbers(seed uint64) func() int {
	return func() int {
		seed = seed*6364136223846793005 + 1442695040888963407
		return int(seed >> 33)
	}
}

// value answers a key's n-th value, no two of them alike, with bytes that are no text.
func value(key, n int) string {
	return string([]byte{byte(key >> 24), byte(key >> 16), byte(key >> 8), byte(key), 0, 255, '\n', byte(n >> 8), byte(n), 0xc3, 'v', 0})
}

// put answers the change that puts a key's n-th value.
func put(key, n int) Change { return Change{Key: key, Val: value(key, n)} }

// gone answers the change that lets a key go.
func gone(key int) Change { return Change{Key: key} }

// puts answers a batch that puts each key's first value.
func puts(keys ...int) []Change {
	var batch []Change
	for _, key := range keys {
		batch = append(batch, put(key, 0))
	}
	return batch
}

// goes answers a batch that lets each key go.
func goes(keys ...int) []Change {
	var batch []Change
	for _, key := range keys {
		batch = append(batch, gone(key))
	}
	return batch
}

// row answers keys from one on, one by one, so many.
func row(from, step, many int) []int {
	var keys []int
	for i := range many {
		keys = append(keys, from+i*step)
	}
	return keys
}

// wants fails the test, if an error has another number than that (0: none).
func wants(t *testing.T, err error, want int, call string, args ...any) {
	t.Helper()
	if tag.Num(err) != want || (err == nil) != (want == 0) {
		t.Fatalf("%s%v: error %v, want %d", call, args, err, want)
	}
}

// fresh answers a new disk.
func fresh(t *testing.T, sectors int) *disk.Disk {
	t.Helper()
	d, err := disk.New(sectors)
	wants(t, err, 0, "disk.New", sectors)
	return d
}

// book is what the chapter says that a ledger has: a plain list of pairs, rising, and a generation.
type book struct {
	pairs []tree.Pair
	gen   uint32
}

// behind answers the book behind a batch.
func (b book) behind(batch []Change) book {
	pairs := slices.Clone(b.pairs)
	for _, c := range batch {
		pairs = slices.DeleteFunc(pairs, func(p tree.Pair) bool { return p.Key == c.Key })
		if c.Val != "" {
			pairs = append(pairs, tree.Pair{Key: c.Key, Val: c.Val})
		}
	}
	slices.SortFunc(pairs, func(p, q tree.Pair) int { return p.Key - q.Key })
	return book{pairs: pairs, gen: b.gen + 1}
}

// get answers a key's value, and whether the key is there.
func (b book) get(key int) (string, bool) {
	for _, p := range b.pairs {
		if p.Key == key {
			return p.Val, true
		}
	}
	return "", false
}

// between answers the pairs from a key on, below another.
func (b book) between(from, to int) []tree.Pair {
	var pairs []tree.Pair
	for _, p := range b.pairs {
		if from <= p.Key && p.Key < to {
			pairs = append(pairs, p)
		}
	}
	return pairs
}

// keys answers all keys.
func (b book) keys() []int {
	var keys []int
	for _, p := range b.pairs {
		keys = append(keys, p.Key)
	}
	return keys
}

// desk is a ledger, its disk, and the book that is kept beside it.
type desk struct {
	t    *testing.T
	d    *disk.Disk
	l    *Ledger
	b    book
	done [][]Change
}

// begun answers a desk with a new ledger on a new disk, behind some batches.
func begun(t *testing.T, sectors int, batches ...[]Change) *desk {
	t.Helper()
	w := &desk{t: t, d: fresh(t, sectors), b: book{gen: 1}}
	l, err := New(w.d)
	wants(t, err, 0, "New", sectors)
	w.l = l
	for _, batch := range batches {
		wants(t, l.Apply(batch), 0, "Apply", batch)
		w.b, w.done = w.b.behind(batch), append(w.done, batch)
	}
	w.stands()
	return w
}

// twin answers another desk to whose ledger the same batches were applied, and no refused ones.
func (w *desk) twin() *desk {
	w.t.Helper()
	return begun(w.t, w.d.Size(), w.done...)
}

// gets fails the test, if Get answers something else than the book.
func (w *desk) gets(key int) {
	w.t.Helper()
	want, is := w.b.get(key)
	val, err := w.l.Get(key)
	if is {
		wants(w.t, err, 0, "Get", key)
	} else {
		wants(w.t, err, 4, "Get", key)
	}
	if val != want {
		w.t.Fatalf("Get(%d) = %q, want %q", key, val, want)
	}
}

// ranges fails the test, if Range answers something else than the book.
func (w *desk) ranges(from, to int) {
	w.t.Helper()
	pairs, err := w.l.Range(from, to)
	wants(w.t, err, 0, "Range", from, to)
	if want := w.b.between(from, to); !slices.Equal(pairs, want) {
		w.t.Fatalf("Range(%d, %d) = %v, want %v", from, to, pairs, want)
	}
}

// stands fails the test, if a ledger whose disk is up isn't what its book says, or isn't whole.
func (w *desk) stands() {
	w.t.Helper()
	if w.l.Gen() != w.b.gen {
		w.t.Fatalf("Gen() = %d, want %d", w.l.Gen(), w.b.gen)
	}
	wants(w.t, w.l.Whole(), 0, "Whole")
	w.ranges(math.MinInt, math.MaxInt)
	for i, p := range w.b.pairs {
		w.gets(p.Key)
		if i%5 == int(w.b.gen%5) { // of many keys the neighbours of some, others each time
			w.gets(p.Key - 1)
			w.gets(p.Key + 1)
			w.ranges(p.Key, p.Key+1)
			w.ranges(p.Key-3, p.Key)
			w.ranges(p.Key+1, p.Key+9)
		}
	}
	for _, key := range []int{-1, 0, 1, last - 1, last, last + 1, math.MinInt, math.MaxInt} {
		w.gets(key)
	}
}

// does fails the test, if a batch isn't applied, wholly.
func (w *desk) does(batch []Change) {
	w.t.Helper()
	wants(w.t, w.l.Apply(batch), 0, "Apply", batch)
	w.b, w.done = w.b.behind(batch), append(w.done, batch)
	if w.d.Soft() != 0 {
		w.t.Fatalf("behind a batch %d writes aren't firm", w.d.Soft())
	}
	w.stands()
}

// refuses fails the test, if a batch isn't refused with that error, or anything is changed.
func (w *desk) refuses(batch []Change, want int) {
	w.t.Helper()
	wants(w.t, w.l.Apply(batch), want, "Apply", batch)
	w.stands()
}

// tries applies a batch for which there may be no room, and tells whether there was: without it nothing is changed.
func (w *desk) tries(batch []Change) bool {
	w.t.Helper()
	err := w.l.Apply(batch)
	if err == nil {
		w.b, w.done = w.b.behind(batch), append(w.done, batch)
	} else {
		wants(w.t, err, 6, "Apply", batch)
	}
	w.stands()
	return err == nil
}

// opens opens the ledger anew.
func (w *desk) opens() {
	w.t.Helper()
	l, err := Open(w.d)
	wants(w.t, err, 0, "Open")
	w.l = l
	w.stands()
}

// crashes lets the power go and come back, and opens the ledger anew.
func (w *desk) crashes(mask uint32, torn int) {
	w.t.Helper()
	w.d.Crash(mask, torn)
	w.d.Up()
	w.opens()
}

// goesOn does some more batches, one of which empties the ledger.
func (w *desk) goesOn() {
	w.t.Helper()
	w.does(nil)
	if !w.tries([]Change{put(77, 1)}) {
		return
	}
	if w.tries(goes(w.b.keys()...)) {
		w.does(puts(78))
	}
	w.crashes(0, 0)
}

// committed opens a pager beside the ledger, that is read alone: what the ledger committed.
func committed(t *testing.T, d *disk.Disk) *pager.Pager {
	t.Helper()
	p, err := pager.Open(d)
	wants(t, err, 0, "pager.Open")
	return p
}

// depth answers on which level the leaves are.
func (w *desk) depth() int {
	w.t.Helper()
	p := committed(w.t, w.d)
	levels, err := check.Depth(p, p.Root())
	wants(w.t, err, 0, "Depth")
	return levels
}

// alike fails the test, if two disks have other roots, generations or pages.
func alike(t *testing.T, d, other *disk.Disk) {
	t.Helper()
	p, q := committed(t, d), committed(t, other)
	if p.Root() != q.Root() || p.Gen() != q.Gen() || p.Used() != q.Used() {
		t.Fatalf("root %d, generation %d, used %v, want %d, %d, %v", p.Root(), p.Gen(), p.Used(), q.Root(), q.Gen(), q.Used())
	}
	for sector := range d.Size() {
		if !bits.Has(p.Used(), sector) {
			continue
		}
		data, err := p.Load(sector)
		want, wrong := q.Load(sector)
		if data != want || err != nil || wrong != nil {
			t.Fatalf("the page %d is %q, want %q", sector, data, want)
		}
	}
}

// The chapter's example.
func TestExample(t *testing.T) {
	d := fresh(t, 240)
	l, err := New(d)
	wants(t, err, 0, "New")
	wants(t, l.Apply([]Change{{Key: 5, Val: "twelve bytes"}}), 0, "Apply")
	val, err := l.Get(5)
	if val != "twelve bytes" || err != nil {
		t.Errorf("Get(5) = %q, %v", val, err)
	}
	if l.Gen() != 2 {
		t.Errorf("Gen() = %d", l.Gen())
	}
}

// 13.1: a new ledger is empty, on disks of all sizes.
func TestNew(t *testing.T) {
	for sectors := 3; sectors <= 240; sectors++ {
		w := begun(t, sectors)
		if pairs, err := w.l.Range(0, last+1); len(pairs) != 0 || err != nil {
			t.Errorf("on %d sectors Range = %v, %v", sectors, pairs, err)
		}
		if p := committed(t, w.d); p.Root() != 0 || p.Used() != (bits.Set{}) || p.Gen() != 1 {
			t.Errorf("on %d sectors the root %d, used %v, generation %d", sectors, p.Root(), p.Used(), p.Gen())
		}
		w.opens()
	}
}

// 13.1: a new ledger where another one was is empty, and of the next generation.
func TestNewOverAnother(t *testing.T) {
	w := begun(t, 60, puts(row(0, 3, 60)...), goes(0, 3), nil)
	l, err := New(w.d)
	wants(t, err, 0, "New")
	w.l, w.b, w.done = l, book{gen: 5}, nil
	w.stands()
	w.opens()
	w.does(puts(9))
	w.opens()
}

// refusesNew fails the test, if New doesn't answer that error, and nothing beside it.
func refusesNew(t *testing.T, d *disk.Disk, want int, what string) {
	t.Helper()
	l, err := New(d)
	wants(t, err, want, "New", what)
	if l != nil {
		t.Fatalf("New of %s answers a ledger beside an error", what)
	}
}

// refusesOpen fails the test, if Open doesn't answer that error, and nothing beside it.
func refusesOpen(t *testing.T, d *disk.Disk, want int, what string) {
	t.Helper()
	l, err := Open(d)
	wants(t, err, want, "Open", what)
	if l != nil {
		t.Fatalf("Open of %s answers a ledger beside an error", what)
	}
}

// 13.1: disks on which no ledger can be: chapter 8's errors of both calls, of which New names the size first, Open the power.
func TestNoDiskForALedger(t *testing.T) {
	refusesNew(t, nil, 1, "no disk")
	refusesOpen(t, nil, 1, "no disk")
	for _, sectors := range []int{1, 2} {
		d := fresh(t, sectors)
		refusesNew(t, d, 1, "a small disk")
		refusesOpen(t, d, 1, "a small disk")
		d.Crash(0, 0)
		refusesNew(t, d, 1, "a small disk that is down")
		refusesOpen(t, d, 7, "a small disk that is down")
	}
	for _, sectors := range []int{3, 240} {
		d := fresh(t, sectors)
		refusesOpen(t, d, 4, "a new disk")
		d.Crash(0, 0)
		refusesNew(t, d, 7, "a disk that is down")
		refusesOpen(t, d, 7, "a disk that is down")
		d.Up()
		refusesOpen(t, d, 4, "a new disk")
		w := begun(t, sectors, puts(8))
		w.d.Crash(0, 0)
		refusesNew(t, w.d, 7, "a ledger's disk that is down")
		refusesOpen(t, w.d, 7, "a ledger's disk that is down")
		w.d.Up()
		w.opens()
	}
}

// switched answers a disk with a superblock, and no page.
func switched(t *testing.T, sectors int, s super.Super) *disk.Disk {
	t.Helper()
	d := fresh(t, sectors)
	wants(t, super.Switch(d, s), 0, "Switch", s)
	return d
}

// 13.1, 13.2: at the last generation nothing can be committed, not even a batch of nothing: ErrSpace, ahead of ErrDown.
func TestLastGeneration(t *testing.T) {
	d := switched(t, 9, super.Super{Gen: math.MaxUint32 - 1})
	l, err := Open(d)
	wants(t, err, 0, "Open")
	w := &desk{t: t, d: d, l: l, b: book{gen: math.MaxUint32 - 1}}
	w.does(puts(1, 2))
	for _, batch := range [][]Change{nil, {}, puts(3), goes(1), goes(1, 2), goes(9)} {
		w.refuses(batch, 6)
	}
	w.refuses([]Change{put(3, 0), {Key: -1}}, 1)
	refusesNew(t, d, 6, "the last generation")
	w.opens()
	w.refuses(nil, 6)
	d.Crash(0, 0)
	wants(t, w.l.Apply(nil), 6, "Apply of nothing, the disk down")
	d.Up()
	w.stands()
}

// store writes a node over a page: no pager is told.
func store(t *testing.T, d *disk.Disk, sector int, n node.Node) {
	t.Helper()
	data, err := node.Lay(n)
	wants(t, err, 0, "Lay", n)
	wants(t, frame.Store(d, sector, pageKind, data), 0, "Store", sector)
}

// spoil changes a byte of a sector.
func spoil(t *testing.T, d *disk.Disk, sector, at int) {
	t.Helper()
	p, err := d.Read(sector)
	wants(t, err, 0, "Read", sector)
	p[at] ^= 16
	wants(t, d.Write(sector, p), 0, "Write", sector)
}

// readNode answers the node in a page that was committed.
func readNode(t *testing.T, d *disk.Disk, sector int) node.Node {
	t.Helper()
	data, err := committed(t, d).Load(sector)
	wants(t, err, 0, "Load", sector)
	n, err := node.Read(data)
	wants(t, err, 0, "Read", data)
	return n
}

// 13.1: Open of pages that aren't whole answers Whole's error: each page of a tree, spoilt at each byte, or of another kind, or with
// another node.
func TestOpenOfSpoiltPages(t *testing.T) {
	for _, many := range []int{1, 7, 8, 30, 90} {
		w := begun(t, 240, puts(row(10, 10, many)...))
		p := committed(t, w.d)
		pages, err := check.Pages(p, p.Root())
		wants(t, err, 0, "Pages")
		for _, sector := range pages {
			good, err := w.d.Read(sector)
			wants(t, err, 0, "Read", sector)
			_, data, err := frame.Read(good)
			wants(t, err, 0, "Read", sector)
			for at := 0; at < 128; at += 1 + sector%7 {
				spoil(t, w.d, sector, at)
				refusesOpen(t, w.d, 3, "a page spoilt")
				wants(t, w.d.Write(sector, good), 0, "Write")
			}
			wants(t, frame.Store(w.d, sector, pageKind+1, data), 0, "Store")
			refusesOpen(t, w.d, 2, "a page of another kind")
			wants(t, frame.Store(w.d, sector, pageKind, data+"x"), 0, "Store")
			refusesOpen(t, w.d, 2, "a page that is no node")
			store(t, w.d, sector, node.Node{})
			refusesOpen(t, w.d, 2, "a leaf without keys")
			store(t, w.d, sector, node.Node{Keys: []int{5}, Kids: []int{238, 239}})
			refusesOpen(t, w.d, 4, "a node whose children aren't there")
			wants(t, w.d.Write(sector, good), 0, "Write")
			w.opens()
		}
	}
}

// 13.1: Open of superblocks that name another tree than there is, or more pages.
func TestOpenOfOtherSuperblocks(t *testing.T) {
	w := begun(t, 40, puts(row(10, 10, 20)...))
	p := committed(t, w.d)
	right := super.Super{Gen: p.Gen(), Root: p.Root(), Used: p.Used()}
	kid := readNode(t, w.d, p.Root()).Kids[0]
	for _, c := range []struct {
		what string
		s    super.Super
		want int
	}{
		{"all that there is", right, 0},
		{"a page more", super.Super{Gen: 9, Root: right.Root, Used: bits.With(right.Used, 39)}, 2},
		{"a page beyond the disk more", super.Super{Gen: 9, Root: right.Root, Used: bits.With(right.Used, 239)}, 2},
		{"a child less", super.Super{Gen: 9, Root: right.Root, Used: bits.Without(right.Used, kid)}, 4},
		{"no root", super.Super{Gen: 9, Used: right.Used}, 2},
		{"no root, and no pages", super.Super{Gen: 9}, 0},
		{"a child as the root", super.Super{Gen: 9, Root: kid, Used: right.Used}, 2},
		{"a child as the root, alone", super.Super{Gen: 9, Root: kid, Used: bits.With(bits.Set{}, kid)}, 0},
		{"a sector without a page as the root", super.Super{Gen: 9, Root: 39, Used: bits.With(right.Used, 39)}, 3},
		{"a sector beyond the disk as the root", super.Super{Gen: 9, Root: 40, Used: bits.With(right.Used, 40)}, 1},
	} {
		w := w.twin()
		wants(t, super.Switch(w.d, c.s), 0, "Switch", c.what)
		if c.want > 0 {
			refusesOpen(t, w.d, c.want, c.what)
			continue
		}
		l, err := Open(w.d)
		wants(t, err, 0, "Open", c.what)
		if l.Gen() != c.s.Gen {
			t.Errorf("%s: Gen() = %d", c.what, l.Gen())
		}
		wants(t, l.Whole(), 0, "Whole", c.what)
	}
}

// 13.1: what another ledger committed is opened, behind each of its batches; that it had, too, what isn't committed by one doesn't matter.
func TestOpenOfAnother(t *testing.T) {
	w := begun(t, 60)
	for i := range 12 {
		w.does(puts(row(i, 12, 9)...))
		w.opens()
		w.does(goes(row(i, 36, 3)...))
		w.refuses([]Change{put(1, 1), {Key: 2, Val: "short"}}, 1)
		w.opens()
	}
	w.does(goes(w.b.keys()...))
	w.opens()
}

// A ledger on a pager that chapter 8 and chapter 10 made has what they committed.
func TestOpenOfAPagersTree(t *testing.T) {
	d := fresh(t, 60)
	p, err := pager.Format(d)
	wants(t, err, 0, "Format")
	root, b := 0, book{gen: 1}
	for _, key := range row(0, 7, 40) {
		root, err = tree.Put(p, root, key, value(key, 3))
		wants(t, err, 0, "Put", key)
		b = b.behind([]Change{put(key, 3)})
	}
	wants(t, p.Commit(root), 0, "Commit")
	b.gen = 2
	w := &desk{t: t, d: d, b: b}
	w.opens()
	w.does(goes(0, 7))
}

// 13.1: Whole and Gen behind each deed, and of a ledger whose disk is spoilt, or down, behind its opening.
func TestWhole(t *testing.T) {
	w := begun(t, 30)
	w.d.Crash(0, 0)
	wants(t, w.l.Whole(), 0, "Whole of an empty ledger, the disk down")
	w.d.Up()
	w.does(puts(row(0, 2, 20)...))
	root := committed(t, w.d).Root()
	w.d.Crash(0, 0)
	wants(t, w.l.Whole(), 7, "Whole, the disk down")
	if w.l.Gen() != 2 {
		t.Errorf("Gen() = %d, the disk down", w.l.Gen())
	}
	w.d.Up()
	good, err := w.d.Read(root)
	wants(t, err, 0, "Read")
	spoil(t, w.d, root, 9)
	wants(t, w.l.Whole(), 3, "Whole of a page spoilt")
	store(t, w.d, root, node.Node{Keys: []int{1}, Vals: []string{value(1, 0)}})
	wants(t, w.l.Whole(), 2, "Whole of another root")
	wants(t, w.d.Write(root, good), 0, "Write")
	w.stands()
}

// 13.2: keys are put, put again and let go, rising, falling and mixed, in batches of one, some and many.
func TestBatches(t *testing.T) {
	rising := row(3, 2, 240)
	falling := slices.Clone(rising)
	slices.Reverse(falling)
	mixed := slices.Clone(rising)
	next := numbers(5)
	for i := range mixed {
		j := next() % (i + 1)
		mixed[i], mixed[j] = mixed[j], mixed[i]
	}
	for _, keys := range [][]int{rising, falling, mixed} {
		for _, size := range []int{1, 2, 3, 7, 8, 40, 240} {
			few := keys[:min(len(keys), 40*size)]
			w := begun(t, 240)
			for i, batch := range slices.Collect(slices.Chunk(puts(few...), size)) {
				w.does(batch)
				if i%3 == 2 {
					again := slices.Clone(batch)
					for j := range again {
						again[j].Val = value(again[j].Key, i)
					}
					w.does(again)
				}
			}
			w.does(goes(row(2, 2, size)...)) // none of them is there
			for _, batch := range slices.Collect(slices.Chunk(goes(few...), size)) {
				w.does(batch)
				w.does(batch)
			}
			if len(w.b.pairs) != 0 {
				t.Fatalf("there are %d pairs", len(w.b.pairs))
			}
		}
	}
}

// anyBatch answers a batch of any sort, of keys below a bound.
func anyBatch(next func() int, most, bound int) []Change {
	var batch []Change
	for range next() % (most + 1) {
		if key := next() % bound; next()%5 < 3 {
			batch = append(batch, put(key, next()))
		} else {
			batch = append(batch, gone(key))
		}
	}
	return batch
}

// 13.2: batches of any sort, with keys that are there, that go, and that aren't there going, several times in a batch.
func TestAnyBatches(t *testing.T) {
	for seed := range uint64(30) {
		next := numbers(seed)
		most := []int{1, 3, 8, 30, 100}[seed%5]
		bound := []int{4, 12, 60, 300, last + 1}[seed/5%5]
		w := begun(t, 240)
		for range 30 {
			w.tries(anyBatch(next, most, bound))
			if next()%6 == 0 {
				w.opens()
			}
		}
	}
}

// each answers all texts of so many letters.
func each(letters string, many int) []string {
	texts := []string{""}
	for range many {
		var longer []string
		for _, text := range texts {
			for _, letter := range letters {
				longer = append(longer, text+string(letter))
			}
		}
		texts = longer
	}
	return texts
}

// 13.2: one key several times in a batch, put, put otherwise and going, in each order, where it is there and where it isn't, alone and
// among others: what stands behind counts.
func TestOneKeySeveralTimes(t *testing.T) {
	for many := range 6 {
		for _, order := range each("pog", many) {
			for _, ahead := range [][]int{nil, {50}, {10, 20, 30}, row(20, 10, 7), row(25, 10, 7), row(20, 10, 15)} {
				var batch []Change
				for i, letter := range order {
					switch letter {
					case 'p':
						batch = append(batch, put(50, 1))
					case 'o':
						batch = append(batch, put(50, 2))
					case 'g':
						batch = append(batch, gone(50))
					}
					if len(ahead) == 3 {
						batch = append(batch, put(40+i%2*20, i), gone(30))
					}
				}
				w := begun(t, 30, puts(ahead...))
				w.does(batch)
			}
		}
	}
}

// 13.2: two keys in each order.
func TestTwoKeysInEachOrder(t *testing.T) {
	for _, order := range each("pqgh", 4) {
		w := begun(t, 12, puts(1, 2, 3))
		var batch []Change
		for i, letter := range order {
			batch = append(batch, map[rune]Change{'p': put(2, i), 'q': put(4, i), 'g': gone(2), 'h': gone(4)}[letter])
		}
		w.does(batch)
	}
}

// 13.2: a batch of nothing is committed, too: the generation is one greater, and nothing else is changed.
func TestBatchOfNothing(t *testing.T) {
	for _, keys := range [][]int{nil, {5}, row(0, 1, 50)} {
		w := begun(t, 60, puts(keys...))
		was := committed(t, w.d)
		for _, batch := range [][]Change{nil, {}, make([]Change, 0, 9), goes(777), goes(777, 778, 777)} {
			w.does(batch)
		}
		is := committed(t, w.d)
		if is.Root() != was.Root() || is.Used() != was.Used() || is.Gen() != was.Gen()+5 {
			t.Errorf("root %d, generation %d, used %v", is.Root(), is.Gen(), is.Used())
		}
		w.opens()
	}
}

// 13.2: keys that go in an empty ledger, all that may be asked for, at a batch's edges too.
func TestGoingInAnEmptyLedger(t *testing.T) {
	for _, sectors := range []int{3, 4, 240} {
		w := begun(t, sectors)
		for _, key := range []int{0, 1, 5, 1 << 16, 1 << 31, last - 1, last} {
			w.does(goes(key))
			w.does(goes(key, 0, key, last))
		}
		if p := committed(t, w.d); p.Used() != (bits.Set{}) {
			t.Errorf("used %v", p.Used())
		}
	}
}

// 13.2: the least and the greatest key.
func TestKeysAtTheEdges(t *testing.T) {
	w := begun(t, 60)
	w.does(puts(0))
	w.does(puts(last))
	w.does(puts(row(last-20, 1, 20)...))
	w.does(puts(row(1, 1, 20)...))
	w.does([]Change{put(0, 1), put(last, 1), gone(1), gone(last - 1)})
	for _, from := range []int{math.MinInt, -1, 0, 1, last - 1, last, last + 1, math.MaxInt} {
		for _, to := range []int{math.MinInt, -1, 0, 1, last - 1, last, last + 1, math.MaxInt} {
			w.ranges(from, to)
		}
	}
	w.does(goes(0, last))
	w.opens()
}

// 13.2: Range from and to any keys, on keys and between them, as chapter 10 says.
func TestRanges(t *testing.T) {
	w := begun(t, 60, puts(row(10, 3, 40)...))
	for from := 5; from < 135; from++ {
		for to := 5; to < 135; to += 1 + from%3 {
			w.ranges(from, to)
		}
	}
	for _, key := range odd {
		w.gets(key)
		w.ranges(key, 40)
		w.ranges(40, key)
		w.ranges(key, key)
	}
}

// 13.2: a batch that makes the tree higher, by one level and by more, and one that makes it lower, down to nothing.
func TestHigherAndLower(t *testing.T) {
	for _, c := range []struct{ ahead, more, was, is int }{
		{0, 1, 0, 1}, {0, 7, 0, 1}, {0, 8, 0, 2}, {7, 1, 1, 2}, {1, 60, 1, 3}, {0, 100, 0, 3}, {0, 400, 0, 4}, {30, 370, 2, 4},
	} {
		w := begun(t, 240, puts(row(0, 1, c.ahead)...))
		if w.depth() != c.was {
			t.Errorf("of %d keys the depth is %d, want %d", c.ahead, w.depth(), c.was)
		}
		w.does(puts(row(c.ahead, 1, c.more)...))
		if w.depth() != c.is {
			t.Errorf("of %d keys the depth is %d, want %d", c.ahead+c.more, w.depth(), c.is)
		}
		w.does(goes(row(c.ahead, 1, c.more)...))
		w.does(goes(row(0, 1, c.ahead)...))
		if p := committed(t, w.d); p.Root() != 0 || p.Used() != (bits.Set{}) {
			t.Errorf("behind all is gone the root is %d, used %v", p.Root(), p.Used())
		}
	}
}

// 13.2: a batch that makes the tree higher and empties it again, and one that fills it anew.
func TestUpAndDownInOneBatch(t *testing.T) {
	w := begun(t, 240)
	all := row(0, 1, 150)
	w.does(slices.Concat(puts(all...), goes(all...)))
	w.does(slices.Concat(puts(all...), goes(all...), puts(7)))
	w.does(slices.Concat(goes(7), puts(all...)))
	w.does(slices.Concat(goes(all...), puts(all...)))
	w.does(slices.Concat(goes(all...), puts(9)))
	w.opens()
}

// wrong are changes that may not be.
func wrong() []Change {
	var list []Change
	for _, key := range odd {
		list = append(list, put(key, 0), gone(key), Change{Key: key, Val: "short"})
	}
	for _, many := range []int{1, 2, 11, 13, 24, 120, 4096} {
		list = append(list, Change{Key: 5, Val: strings.Repeat("v", many)}, Change{Key: 9999, Val: strings.Repeat("\x00", many)})
	}
	return list
}

// mixed answers batches, each with a wrong change at each of its places.
func mixed(good []Change, bad Change) [][]Change {
	var batches [][]Change
	for at := range len(good) + 1 {
		batches = append(batches, slices.Insert(slices.Clone(good), at, bad))
	}
	return batches
}

// 13.2: wrong keys and values, at each place of a batch: ErrArg, and nothing is changed, what stands ahead of it not either.
func TestWrongChanges(t *testing.T) {
	good := []Change{put(5, 9), gone(10), put(11, 0), gone(777), put(5, 8)}
	for _, keys := range [][]int{nil, {5, 10}, row(0, 5, 40)} {
		w := begun(t, 60, puts(keys...))
		for _, bad := range wrong() {
			for _, batch := range mixed(good, bad) {
				wants(t, w.l.Apply(batch), 1, "Apply")
			}
			w.refuses([]Change{bad}, 1)
			w.refuses([]Change{bad, bad}, 1)
		}
		w.opens()
		w.does(good)
		alike(t, w.d, w.twin().d)
	}
}

// 13.2: a wrong change is refused ahead of a full disk, and of one that is down, at each place: behind the change for which there is no
// room, too.
func TestWrongChangesFirst(t *testing.T) {
	w := begun(t, 3, puts(5))
	full := []Change{put(6, 0), gone(5), put(7, 0)}
	w.refuses(full, 6)
	for _, bad := range wrong() {
		for _, batch := range mixed(full, bad) {
			w.refuses(batch, 1)
		}
	}
	w.d.Crash(0, 0)
	wants(t, w.l.Apply(full), 7, "Apply, the disk down")
	for _, bad := range wrong() {
		for _, batch := range mixed(full, bad) {
			wants(t, w.l.Apply(batch), 1, "Apply, the disk down")
		}
	}
	w.d.Up()
	w.stands()
}

// 13.1, 13.2: a nil ledger at each call: ErrState, ahead of what else may be wrong.
func TestNilLedger(t *testing.T) {
	var l *Ledger
	if l.Gen() != 0 {
		t.Errorf("Gen() = %d", l.Gen())
	}
	wants(t, l.Whole(), 9, "Whole")
	for _, batch := range [][]Change{nil, {}, puts(1), goes(1), {{Key: -1}}, {{Key: 1, Val: "x"}}} {
		wants(t, l.Apply(batch), 9, "Apply", batch)
	}
	for _, key := range append(odd, 0, 1, last) {
		val, err := l.Get(key)
		wants(t, err, 9, "Get", key)
		pairs, wrong := l.Range(key, math.MaxInt)
		wants(t, wrong, 9, "Range", key)
		if val != "" || len(pairs) != 0 {
			t.Errorf("Get = %q, Range = %v beside an error", val, pairs)
		}
	}
}

// 13.2: the smallest disk has room for one page: a leaf, which can go, but not be changed.
func TestSmallestDisk(t *testing.T) {
	for _, key := range []int{0, 5, last} {
		w := begun(t, 3)
		w.does(puts(key))
		for range 3 {
			w.refuses(puts(7), 6)
			w.refuses([]Change{put(key, 1)}, 6)
			w.refuses([]Change{gone(8), put(8, 0)}, 6)
			w.does(goes(6))
			w.opens()
			w.does(goes(key))
			w.does(puts(key))
		}
		w.does(goes(key, key, 6))
		w.does(puts(9))
		w.crashes(0, 0)
	}
}

// fill puts keys, one a batch, until there is no room, and answers the batch that was refused.
func (w *desk) fill(key, step int) []Change {
	w.t.Helper()
	for {
		batch := puts(key)
		if !w.tries(batch) {
			return batch
		}
		key += step
	}
}

// 13.2: disks of many sizes that are full: nothing is changed, the ledger goes on, the batch is refused again, and a twin to which it was
// never handed has the same pages behind the next batch.
func TestFullDisk(t *testing.T) {
	for _, sectors := range []int{3, 4, 5, 6, 7, 8, 9, 10, 11, 12, 13, 17, 24, 33, 60} {
		for _, step := range []int{1, -1} {
			w := begun(t, sectors)
			batch := w.fill(10000, step)
			w.refuses(batch, 6)
			w.does(nil)
			w.refuses(batch, 6)
			w.opens()
			w.refuses(batch, 6)
			w.refuses(puts(row(1, 1, 500)...), 6)
			twin := w.twin()
			w.does(goes(3))
			twin.does(goes(3))
			alike(t, w.d, twin.d)
		}
	}
}

// 13.2: on a full disk a batch that frees room is applied, and then the one that was refused is.
func TestRoomIsFreed(t *testing.T) {
	for _, sectors := range []int{3, 7, 11, 12, 13, 60} {
		w := begun(t, sectors)
		batch := w.fill(10000, 1)
		keys, freed := w.b.keys(), false
		slices.Reverse(keys)
		for _, key := range keys {
			if freed = w.tries(goes(key)) && w.tries(batch); freed {
				break
			}
		}
		if !freed {
			t.Errorf("on %d sectors no room is freed", sectors)
		}
		w.opens()
		twin := w.twin()
		alike(t, w.d, twin.d)
	}
}

// 13.2: batches of each length, until the disk is full amid one: at each place of it nothing is changed.
func TestFullAtEachPlace(t *testing.T) {
	for _, sectors := range []int{4, 6, 9, 14, 30} {
		for _, ahead := range []int{0, 1, 6, 8} {
			w := begun(t, sectors)
			if !w.tries(puts(row(0, 100, ahead)...)) {
				continue
			}
			refused := 0
			for many := 1; refused < 6; many++ {
				batch := slices.Concat(goes(0), puts(row(5, 7, many)...), []Change{put(100, many)})
				if !w.tries(batch) {
					refused++
					continue
				}
				w.tries(goes(row(5, 7, many)...))
			}
			w.opens()
		}
	}
}

// 13.2: the greatest disk, full by batches of many changes.
func TestGreatestDisk(t *testing.T) {
	w := begun(t, 240)
	next := numbers(11)
	many := 64
	for many > 0 {
		var batch []Change
		for range many {
			batch = append(batch, put(next()%(last+1), next()))
		}
		if !w.tries(batch) {
			many /= 2
		}
	}
	if len(w.b.pairs) < 400 {
		t.Errorf("the greatest disk has room for %d pairs", len(w.b.pairs))
	}
	w.opens()
	for _, key := range w.b.keys() {
		if w.tries(goes(key)) {
			break
		}
	}
	w.crashes(math.MaxUint32, 0)
}

// 13.2: a disk that is down: ErrDown of each batch, nothing is changed, and the ledger goes on when it is up again.
func TestDown(t *testing.T) {
	for _, keys := range [][]int{nil, {5}, row(0, 5, 40)} {
		w := begun(t, 60, puts(keys...))
		for _, batch := range [][]Change{nil, puts(5), puts(6, 7), goes(5), goes(777), goes(0, 5, 777), puts(row(0, 1, 30)...)} {
			w.d.Crash(0, 0)
			wants(t, w.l.Apply(batch), 7, "Apply, the disk down", batch)
			if w.l.Gen() != w.b.gen {
				t.Fatalf("Gen() = %d, want %d", w.l.Gen(), w.b.gen)
			}
			val, err := w.l.Get(5)
			pairs, wrong := w.l.Range(0, 10)
			if len(w.b.pairs) == 0 {
				wants(t, err, 4, "Get of an empty ledger, the disk down")
				wants(t, wrong, 0, "Range of an empty ledger, the disk down")
			} else {
				wants(t, err, 7, "Get, the disk down")
				wants(t, wrong, 7, "Range, the disk down")
			}
			if val != "" || len(pairs) != 0 {
				t.Fatalf("Get = %q, Range = %v, the disk down", val, pairs)
			}
			w.d.Up()
			w.stands()
			w.does([]Change{put(3, len(batch))})
		}
		w.opens()
		alike(t, w.d, w.twin().d)
	}
}

// 13.2: a page that is spoilt, or not there, behind the opening: its error, what stands ahead of it in the batch isn't changed, and that a
// page isn't there isn't taken for a key that isn't.
func TestSpoiltAmidABatch(t *testing.T) {
	for _, many := range []int{20, 90} {
		w := begun(t, 240, puts(row(0, 10, many)...))
		root := committed(t, w.d).Root()
		kids := readNode(t, w.d, root).Kids
		behind := kids[len(kids)-1]
		good, err := w.d.Read(behind)
		wants(t, err, 0, "Read")
		high := 10*many - 10
		for _, batch := range [][]Change{
			goes(high), goes(high + 1), {put(high, 1)}, {put(3, 1), put(high, 1)}, {gone(0), gone(high)}, {put(3, 1), gone(10), gone(high + 1), put(4, 1)},
		} {
			spoil(t, w.d, behind, 100)
			wants(t, w.l.Apply(batch), 3, "Apply", batch)
			_, err := w.l.Get(high)
			wants(t, err, 3, "Get", high)
			pairs, err := w.l.Range(0, high+1)
			wants(t, err, 3, "Range")
			if len(pairs) != 0 {
				t.Fatalf("Range = %v beside an error", pairs)
			}
			store(t, w.d, behind, node.Node{Keys: []int{high}, Kids: []int{238, 239}})
			wants(t, w.l.Apply(batch), 4, "Apply", batch)
			wants(t, w.d.Write(behind, good), 0, "Write")
			w.stands()
		}
		w.does(goes(high, 0))
	}
}

// What is handed in isn't changed, spare room included, and isn't kept.
func TestBatchIsItsCallers(t *testing.T) {
	w := begun(t, 60)
	all := make([]Change, 20)
	for i := range all {
		all[i] = put(i/2, i)
		if i%7 == 3 {
			all[i] = gone(i / 2)
		}
	}
	was := slices.Clone(all)
	w.does(slices.Clone(all[:9]))
	w.refuses(append(slices.Clone(all[:5]), Change{Key: -1}), 1)
	wants(t, w.l.Apply(all[3:9]), 0, "Apply")
	if !slices.Equal(all, was) {
		t.Errorf("the batch is %v, was %v", all, was)
	}
	w.b = w.b.behind(was[3:9])
	w.stands()
	for i := range all {
		all[i] = Change{Key: i, Val: "another text"}
	}
	w.stands()
	w.does(nil)
	w.opens()
}

// What is handed out is new: a list that was answered keeps what it has, and one that is changed changes no ledger.
func TestAnswersAreTheirCallers(t *testing.T) {
	w := begun(t, 60, puts(row(0, 3, 30)...))
	one, err := w.l.Range(0, 60)
	wants(t, err, 0, "Range")
	was := slices.Clone(one)
	other, err := w.l.Range(0, 60)
	wants(t, err, 0, "Range")
	for i := range other[:cap(other)] {
		other[:cap(other)][i] = tree.Pair{Key: -i, Val: "another text"}
	}
	w.stands()
	w.does([]Change{put(0, 7), gone(3), put(4, 0)})
	w.does(goes(w.b.keys()...))
	w.refuses([]Change{put(0, 7), {Key: -1}}, 1)
	w.d.Crash(0, 0)
	if !slices.Equal(one, was) {
		t.Errorf("the list is %v, was %v", one, was)
	}
}

// Two ledgers on two disks have nothing to do with each other.
func TestTwoLedgers(t *testing.T) {
	one, two := begun(t, 20), begun(t, 40)
	for i := range 15 {
		one.does([]Change{put(i, 1)})
		two.does([]Change{put(i%4, i), gone(i % 3)})
		one.stands()
		if i%5 == 4 {
			two.crashes(0, 0)
		}
		one.refuses([]Change{put(99, 1), {Key: 4, Val: "x"}}, 1)
		two.stands()
	}
}

// scripts are batches of all sorts, one behind the other, from a new ledger on.
func scripts() [][][]Change {
	next := numbers(21)
	var mixed [][]Change
	for range 9 {
		mixed = append(mixed, anyBatch(next, 25, 60))
	}
	return [][][]Change{
		{puts(5), puts(6, 7), {put(5, 1)}, nil, goes(6), goes(9), {put(5, 2), gone(5), put(5, 3)}, goes(5, 7), nil, puts(8)},
		{puts(row(0, 2, 7)...), puts(20), puts(1, 3), goes(row(0, 2, 5)...), goes(1, 3), goes(20, 10, 12), puts(row(0, 1, 30)...)},
		{puts(row(0, 1, 60)...), {put(0, 1), put(59, 1)}, goes(row(10, 3, 12)...), goes(row(0, 1, 60)...), puts(row(0, 1, 9)...)},
		mixed,
	}
}

// at answers a desk with a new ledger behind the first few batches of a script.
func at(t *testing.T, script [][]Change, many int) *desk {
	t.Helper()
	return begun(t, 60, script[:many]...)
}

// masks answers which writes are kept: none, all, all but one at an end, the first few, each second, and some that are drawn.
func masks(next func() int, soft int) []uint32 {
	list := []uint32{0, math.MaxUint32, 0x55555555, 0xaaaaaaaa, 0xfffffffe}
	for many := range min(soft, 32) {
		list = append(list, 1<<many-1)
	}
	for range 8 {
		list = append(list, uint32(next()))
	}
	return list
}

// 13.3: the power goes behind each batch: what is opened then has all of them, and goes on.
func TestPowerGoesBehindEachBatch(t *testing.T) {
	for _, script := range scripts() {
		next := numbers(31)
		for many := range len(script) + 1 {
			for _, mask := range masks(next, 4) {
				w := at(t, script, many)
				w.crashes(mask, next()%200)
				if many < len(script) {
					w.does(script[many])
				}
				w.crashes(mask, next()%200)
			}
			at(t, script, many).goesOn()
		}
	}
}

// 13.3: the power goes behind batches that were refused, whose pages may be kept, torn or lost: nothing of them is there.
func TestPowerGoesBehindRefusedBatches(t *testing.T) {
	for _, sectors := range []int{3, 4, 7, 12, 20} {
		next := numbers(uint64(sectors))
		w := begun(t, sectors)
		w.fill(50, 1)
		for _, mask := range masks(next, 32) {
			twin := w.twin()
			twin.refuses(puts(row(0, 1, 500)...), 6)
			if sectors > 3 && twin.d.Soft() == 0 {
				t.Fatalf("on %d sectors no page of a refused batch was written", sectors)
			}
			if next()%2 == 0 {
				twin.refuses([]Change{put(50, 1), {Key: -1}}, 1)
			}
			twin.crashes(mask, next()%200)
			twin.goesOn()
		}
	}
}

// inside does a batch's pages, as the chapters say them, to a disk, and then the first few steps of its commit: what waits is made firm,
// the superblock is written, that is made firm. No call can look between them, so they are done one by one.
func inside(t *testing.T, d *disk.Disk, batch []Change, steps int) {
	t.Helper()
	p := committed(t, d)
	root := p.Root()
	for _, c := range batch {
		var next int
		var err error
		if c.Val != "" {
			next, err = tree.Put(p, root, c.Key, c.Val)
		} else if next, err = tree.Delete(p, root, c.Key); tag.Same(err, api.ErrNone) {
			continue
		}
		wants(t, err, 0, "Put, Delete", c)
		root = next
	}
	if steps > 0 {
		wants(t, d.Flush(), 0, "Flush")
	}
	if steps > 1 {
		s := super.Super{Gen: p.Gen() + 1, Root: root, Used: p.Used()}
		data, err := super.Lay(s)
		wants(t, err, 0, "Lay", s)
		wants(t, frame.Store(d, int(s.Gen%2), superKind, data), 0, "Store")
	}
	if steps > 2 {
		wants(t, d.Flush(), 0, "Flush")
	}
}

// 13.2, 13.3: the sectors are those behind a batch's steps, and no write waits: what the next tests do is what a batch does.
func TestStepsOfABatch(t *testing.T) {
	for _, script := range scripts() {
		for many, batch := range script {
			one, two := at(t, script, many), at(t, script, many)
			inside(t, two.d, batch, 3)
			one.does(batch)
			for sector := range one.d.Size() {
				got, err := one.d.Read(sector)
				want, wrong := two.d.Read(sector)
				if got != want || err != nil || wrong != nil {
					t.Fatalf("behind the batch %d the sector %d is %v, want %v", many, sector, got, want)
				}
			}
		}
	}
}

// 13.3: the power goes amid a batch's pages, of which some are kept, one is torn and the rest are lost: nothing of it is there.
func TestPowerGoesAmidThePages(t *testing.T) {
	for _, script := range scripts() {
		next := numbers(41)
		for many, batch := range script {
			w := at(t, script, many)
			inside(t, w.d, batch, 0)
			for _, mask := range masks(next, w.d.Soft()) {
				w := at(t, script, many)
				inside(t, w.d, batch, 0)
				w.crashes(mask, next()%128)
				w.does(batch)
				w.crashes(0, 0)
			}
		}
	}
}

// 13.3: the power goes between a batch's pages and its superblock: nothing of it is there.
func TestPowerGoesAheadOfTheSuperblock(t *testing.T) {
	for _, script := range scripts() {
		for many, batch := range script {
			for _, mask := range []uint32{0, 1, math.MaxUint32} {
				w := at(t, script, many)
				inside(t, w.d, batch, 1)
				w.crashes(mask, 64)
				w.goesOn()
			}
		}
	}
}

// 13.3: the superblock is torn at each byte: nothing of the batch is there, or, where no byte is wanting, all.
func TestPowerGoesInTheSuperblock(t *testing.T) {
	for _, script := range scripts() {
		for many, batch := range script {
			for torn := 0; torn < api.Sector; torn += 1 + torn/48*7 { // behind its 41 bytes stand zero bytes
				w := at(t, script, many)
				inside(t, w.d, batch, 2)
				sector := int((w.b.gen + 1) % 2)
				whole, err := w.d.Read(sector)
				wants(t, err, 0, "Read", sector)
				w.d.Crash(0, torn)
				w.d.Up()
				left, err := w.d.Read(sector)
				wants(t, err, 0, "Read", sector)
				if left == whole {
					w.b = w.b.behind(batch)
				}
				w.opens()
				if torn%16 == 0 {
					w.goesOn()
				}
			}
		}
	}
}

// 13.3: the superblock is kept, or firm: all of the batch is there, though it was never answered.
func TestPowerGoesBehindTheSuperblock(t *testing.T) {
	for _, script := range scripts() {
		for many, batch := range script {
			for _, mask := range []uint32{1, math.MaxUint32} {
				for _, steps := range []int{2, 3} {
					w := at(t, script, many)
					inside(t, w.d, batch, steps)
					w.b = w.b.behind(batch)
					w.crashes(mask, 64)
					w.goesOn()
				}
			}
		}
	}
}

// 13.3: a new ledger over another one, the power gone behind it: it is empty.
func TestPowerGoesBehindNew(t *testing.T) {
	for _, script := range scripts() {
		w := at(t, script, len(script))
		_, err := New(w.d)
		wants(t, err, 0, "New")
		w.b = book{gen: w.b.gen + 1}
		w.crashes(0, 0)
		w.goesOn()
	}
}

// 13.3: the power goes again and again, at any place of a long life, on disks that are full at times: each time all batches that were
// applied are there, and no other one, but perhaps the one that was under way.
func TestPowerGoesManyTimes(t *testing.T) {
	for seed := range uint64(40) {
		next := numbers(2000 + seed)
		w := begun(t, []int{5, 9, 20, 60, 240}[seed%5])
		for range 25 {
			for range next() % 4 {
				w.tries(anyBatch(next, 12, 40))
			}
			batch := anyBatch(next, 12, 40)
			if w.twin().tries(batch) {
				w.amid(batch, next()%4, uint32(next()), next()%200)
			} else {
				wants(t, w.l.Apply(batch), 6, "Apply", batch)
				w.crashes(uint32(next()), next()%200)
			}
		}
	}
}

// amid lets the power go behind so many steps of a batch. Where the superblock was written, but isn't firm, and isn't kept, either one may
// count: the bytes that are torn may be all that it has.
func (w *desk) amid(batch []Change, steps int, mask uint32, torn int) {
	w.t.Helper()
	inside(w.t, w.d, batch, steps)
	w.d.Crash(mask, torn)
	w.d.Up()
	counts := committed(w.t, w.d).Gen() > w.b.gen
	must, may := steps > 2 || steps == 2 && mask%2 == 1, steps >= 2
	if must && !counts || counts && !may {
		w.t.Fatalf("behind %d steps, the mask %x: the batch counts: %t", steps, mask, counts)
	}
	if counts {
		w.b, w.done = w.b.behind(batch), append(w.done, batch)
	}
	w.opens()
}
