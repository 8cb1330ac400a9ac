package pager

import (
	"math"
	"strings"
	"testing"

	"dynamo/api"
	"dynamo/bits"
	"dynamo/disk"
	"dynamo/frame"
	"dynamo/super"
	"dynamo/tag"
)

// What a sector is: free, a page of the superblock's, a new page, or a page of the superblock's that goes.
const (
	free = iota
	kept
	added
	leaving
)

// book is what the chapter says that a pager is: of each sector what it is and which data a page has.
// It holds no pointer: a copy is another one.
type book struct {
	size int
	gen  uint32
	root int
	is   [240]int
	data [240]string
	down bool
}

// inUsed tells whether Used answers a sector.
func (b *book) inUsed(i int) bool {
	return i >= 0 && i < 240 && (b.is[i] == kept || b.is[i] == added)
}

// used answers the bytes of what is used: the highest number of a byte first, each doubled by those behind it.
func (b *book) used() (s bits.Set) {
	for at := range s {
		for n := 8*at + 7; n >= 8*at; n-- {
			s[at] *= 2
			if b.inUsed(n) {
				s[at]++
			}
		}
	}
	return s
}

// load answers the error of Load (0 of none), and the data.
func (b *book) load(i int) (int, string) {
	switch {
	case i < 0 || i > 239 || b.is[i] == free:
		return 4, ""
	case b.down:
		return 7, ""
	}
	return 0, b.data[i]
}

// add does New, and answers its error and the sector.
func (b *book) add(data string) (int, int) {
	if len(data) > 120 {
		return 8, 0
	}
	least := 2
	for least < b.size && b.is[least] != free {
		least++
	}
	switch {
	case least >= b.size:
		return 6, 0
	case b.down:
		return 7, 0
	}
	b.is[least], b.data[least] = added, data
	return 0, least
}

// drop does Drop, and answers its error.
func (b *book) drop(i int) int {
	if !b.inUsed(i) {
		return 4
	}
	if b.is[i] == added {
		b.is[i] = free
	} else {
		b.is[i] = leaving
	}
	return 0
}

// turn lets each sector of one sort be of another one.
func (b *book) turn(from, to int) {
	for i := range b.is {
		if b.is[i] == from {
			b.is[i] = to
		}
	}
}

// commit does Commit, and answers its error.
func (b *book) commit(root int) int {
	switch {
	case root != 0 && !b.inUsed(root):
		return 1
	case b.gen == math.MaxUint32:
		return 6
	case b.down:
		return 7
	}
	b.turn(added, kept)
	b.turn(leaving, free)
	b.gen, b.root = b.gen+1, root
	return 0
}

// abort does Abort; a pager that is opened anew is so, too.
func (b *book) abort() {
	b.turn(added, free)
	b.turn(leaving, kept)
}

// format does Format, and answers its error.
func (b *book) format() int {
	switch {
	case b.size < 3:
		return 1
	case b.down:
		return 7
	case b.gen == math.MaxUint32:
		return 6
	}
	*b = book{size: b.size, gen: b.gen + 1}
	return 0
}

// sectors are all that a call may be asked for, those that are none among them.
func sectors() []int {
	l := []int{
		math.MinInt, math.MinInt + 1, math.MinInt + 2, -1 << 32, -1<<32 + 2, -256, -254, -240, -238, -8, -2, -1,
		240, 241, 242, 247, 248, 255, 256, 257, 258, 259, 1000, 1 << 16, 1<<16 + 2, 1<<31 - 1, 1 << 32, 1<<32 + 2, math.MaxInt - 1, math.MaxInt,
	}
	for i := range 240 {
		l = append(l, i)
	}
	return l
}

// wants fails the test, if an error has another number than that (0: none).
func wants(t *testing.T, err error, want int, call string, args ...any) {
	t.Helper()
	if tag.Num(err) != want || (err == nil) != (want == 0) {
		t.Fatalf("%s%v: error %v, want %d", call, args, err, want)
	}
}

// loads fails the test, if a sector isn't loaded as the book says.
func loads(t *testing.T, p *Pager, b *book, i int) {
	t.Helper()
	want, text := b.load(i)
	data, err := p.Load(i)
	wants(t, err, want, "Load", i)
	if data != text {
		t.Fatalf("Load(%d) = %q, want %q", i, data, text)
	}
}

// stands fails the test, if a pager answers other things than its book.
func stands(t *testing.T, p *Pager, b *book) {
	t.Helper()
	if p.Root() != b.root || p.Gen() != b.gen {
		t.Fatalf("root %d, generation %d, want %d, %d", p.Root(), p.Gen(), b.root, b.gen)
	}
	if p.Used() != b.used() {
		t.Fatalf("Used = %v, want %v", p.Used(), b.used())
	}
	for _, i := range sectors() {
		loads(t, p, b, i)
	}
}

// fresh answers a new disk.
func fresh(t *testing.T, n int) *disk.Disk {
	t.Helper()
	d, err := disk.New(n)
	if err != nil {
		t.Fatalf("New(%d): error %v", n, err)
	}
	return d
}

// content answers all sectors of a disk that is up.
func content(t *testing.T, d *disk.Disk) []api.Page {
	t.Helper()
	l := make([]api.Page, d.Size())
	for i := range l {
		p, err := d.Read(i)
		if err != nil {
			t.Fatalf("Read(%d): error %v", i, err)
		}
		l[i] = p
	}
	return l
}

// same fails the test, if two disks hold other sectors, or have other writes that aren't firm.
func same(t *testing.T, d, other *disk.Disk) {
	t.Helper()
	got, want := content(t, d), content(t, other)
	for i := range want {
		if got[i] != want[i] {
			t.Fatalf("the sector %d is %v, want %v", i, got[i], want[i])
		}
	}
	if d.Soft() != other.Soft() {
		t.Fatalf("%d writes aren't firm, want %d", d.Soft(), other.Soft())
	}
}

// write writes a sector.
func write(t *testing.T, d *disk.Disk, at int, p api.Page) {
	t.Helper()
	if err := d.Write(at, p); err != nil {
		t.Fatalf("Write(%d): error %v", at, err)
	}
}

// framed answers a frame that may be.
func framed(t *testing.T, kind int, data string) api.Page {
	t.Helper()
	p, err := frame.Lay(kind, data)
	if err != nil {
		t.Fatalf("Lay(%d, %q): error %v", kind, data, err)
	}
	return p
}

// refusesOpen fails the test, if Open doesn't answer that error, and nothing beside it.
func refusesOpen(t *testing.T, d *disk.Disk, want int) {
	t.Helper()
	p, err := Open(d)
	wants(t, err, want, "Open")
	if p != nil {
		t.Fatalf("Open answers a pager beside an error")
	}
}

// refusesFormat fails the test, if Format doesn't answer that error, and nothing beside it.
func refusesFormat(t *testing.T, d *disk.Disk, want int) {
	t.Helper()
	p, err := Format(d)
	wants(t, err, want, "Format")
	if p != nil {
		t.Fatalf("Format answers a pager beside an error")
	}
}

// opened answers the pager that is opened on a disk.
func opened(t *testing.T, d *disk.Disk) *Pager {
	t.Helper()
	p, err := Open(d)
	wants(t, err, 0, "Open")
	return p
}

// desk is a disk, a pager on it, and what the chapter says that the pager is. A quiet one's pager isn't
// looked at behind each call.
type desk struct {
	t     *testing.T
	d     *disk.Disk
	p     *Pager
	b     book
	quiet bool
}

// formatted answers a desk with a pager that is made anew on a new disk.
func formatted(t *testing.T, size int) *desk {
	t.Helper()
	w := &desk{t: t, d: fresh(t, size), b: book{size: size}}
	w.format()
	return w
}

// at answers a desk with a pager that is opened at a generation, with a page in each of the first few sectors.
func at(t *testing.T, size int, gen uint32, pages int) *desk {
	t.Helper()
	w := &desk{t: t, d: fresh(t, size), b: book{size: size, gen: gen}}
	for i := 2; i < 2+pages; i++ {
		w.b.is[i], w.b.data[i] = kept, strings.Repeat("p", i%121)
		write(t, w.d, i, framed(t, 2, w.b.data[i]))
	}
	if pages > 0 {
		w.b.root = 2
	}
	wants(t, super.Switch(w.d, super.Super{Gen: gen, Root: w.b.root, Used: w.b.used()}), 0, "Switch", gen)
	w.p = opened(t, w.d)
	w.stands()
	return w
}

// stands fails the test, if the pager answers other things than its book.
func (w *desk) stands() {
	w.t.Helper()
	if !w.quiet {
		stands(w.t, w.p, &w.b)
	}
}

// format makes a pager anew.
func (w *desk) format() {
	w.t.Helper()
	p, err := Format(w.d)
	want := w.b.format()
	wants(w.t, err, want, "Format")
	if want == 0 {
		w.p = p
	} else if p != nil {
		w.t.Fatalf("Format answers a pager beside an error")
	}
	w.stands()
}

// open opens the pager anew: what wasn't committed is gone.
func (w *desk) open() {
	w.t.Helper()
	w.p = opened(w.t, w.d)
	w.b.abort()
	w.stands()
}

// add makes a page.
func (w *desk) add(data string) {
	w.t.Helper()
	soft := w.d.Soft()
	i, err := w.p.New(data)
	want, sector := w.b.add(data)
	wants(w.t, err, want, "New", data)
	if i != sector {
		w.t.Fatalf("New(%q) = %d, want %d", data, i, sector)
	}
	if want != 0 && w.d.Soft() != soft {
		w.t.Fatalf("New(%q): refused, and written", data)
	}
	if want == 0 {
		if p, err := w.d.Read(i); err != nil || p != framed(w.t, 2, data) {
			w.t.Fatalf("the sector %d is %v, %v, no frame of the kind 2 of %q", i, p, err, data)
		}
	}
	w.stands()
}

// drop lets a page go.
func (w *desk) drop(i int) {
	w.t.Helper()
	wants(w.t, w.p.Drop(i), w.b.drop(i), "Drop", i)
	w.stands()
}

// commit commits a root: behind it the superblock that counts is the pager's, and all is firm.
func (w *desk) commit(root int) {
	w.t.Helper()
	soft, want := w.d.Soft(), w.b.commit(root)
	wants(w.t, w.p.Commit(root), want, "Commit", root)
	if want != 0 && w.d.Soft() != soft {
		w.t.Fatalf("Commit(%d): refused, and %d writes aren't firm, want %d", root, w.d.Soft(), soft)
	}
	if want == 0 {
		best, err := super.Best(w.d)
		if err != nil || best != (super.Super{Gen: w.b.gen, Root: root, Used: w.b.used()}) || w.d.Soft() != 0 {
			w.t.Fatalf("Commit(%d): what counts is %v, %v; %d writes aren't firm", root, best, err, w.d.Soft())
		}
	}
	w.stands()
}

// abort aborts.
func (w *desk) abort() { w.t.Helper(); w.p.Abort(); w.b.abort(); w.stands() }

// crash lets the power go, and the pager be opened when it is back.
func (w *desk) crash(mask uint32, torn int) {
	w.t.Helper()
	w.d.Crash(mask, torn)
	w.d.Up()
	w.open()
}

// fill makes pages till there is no sector, and one more.
func (w *desk) fill() {
	w.t.Helper()
	for i := range w.b.size {
		w.add(strings.Repeat("f", i%121))
	}
	w.add("more")
}

// numbers answers a function that makes numbers from 0 on, always the same ones of one seed.
func numbers(seed uint64) func() int {
	return func() int {
		seed = seed*6364136223846793005 + 1442695040888963407
		return int(seed >> 33)
	}
}

// sample answers data of mixed bytes; most of them may be a page's.
func sample(next func() int) string {
	n := next() % 124
	switch next() % 8 {
	case 0:
		n = 120
	case 1:
		n = 0
	}
	text := make([]byte, n)
	for i := range text {
		text[i] = byte(next() >> 7)
	}
	return string(text)
}

// 8.1, 8.2: the chapter's example.
func TestExample(t *testing.T) {
	p, err := Format(fresh(t, 3))
	wants(t, err, 0, "Format")
	if i, err := p.New("page"); i != 2 || err != nil {
		t.Fatalf("New = %d, %v", i, err)
	}
	if data, err := p.Load(2); data != "page" || err != nil {
		t.Fatalf("Load(2) = %q, %v", data, err)
	}
}

// 8.1: a pager that is made anew has no page, and is switched to: it is firm.
func TestFormat(t *testing.T) {
	for _, n := range []int{3, 4, 5, 8, 9, 239, 240} {
		w := formatted(t, n)
		best, err := super.Best(w.d)
		if err != nil || best != (super.Super{Gen: 1}) || w.p.Gen() != 1 || w.d.Soft() != 0 {
			t.Fatalf("%d: what counts is %v, %v", n, best, err)
		}
		w.crash(0, 77)
		w.crash(math.MaxUint32, 0)
	}
}

// 8.1: on a disk that has a superblock already the next generation is switched to, without its pages; its sectors are new pages' then.
func TestFormatAnew(t *testing.T) {
	for _, gen := range []uint32{1, 2, 3, 254, 255, 256, 1<<16 - 1, 1<<24 - 1, 1<<31 - 1, 1 << 31, math.MaxUint32 - 2, math.MaxUint32 - 1} {
		w := at(t, 6, gen, 3)
		w.format()
		if w.p.Gen() != gen+1 || w.p.Root() != 0 || w.p.Used() != (bits.Set{}) {
			t.Fatalf("generation %d, root %d, used %v", w.p.Gen(), w.p.Root(), w.p.Used())
		}
		w.open()
		w.add("other")
		w.drop(3)
		w.commit(2)
	}
}

// 8.1: what a pager had that wasn't committed is none of one that is made anew behind it, or opened.
func TestFormatAndOpenForgetWhatIsNew(t *testing.T) {
	for _, anew := range []func(w *desk){(*desk).format, (*desk).open} {
		w := at(t, 9, 5, 4)
		w.add("a")
		w.drop(3)
		w.add("b")
		anew(w)
		w.add("c")
		w.commit(0)
		w.open()
	}
}

// 8.1: a disk of 1 sector or 2, and none at all, whether it is up or down.
func TestSmallDisks(t *testing.T) {
	refusesFormat(t, nil, 1)
	refusesOpen(t, nil, 1)
	for n := 1; n <= 2; n++ {
		d := fresh(t, n)
		refusesFormat(t, d, 1)
		refusesOpen(t, d, 1)
		write(t, d, 0, framed(t, 1, "\x00\x00\x00\x02\x00"+strings.Repeat("\x00", 30)))
		refusesFormat(t, d, 1)
		refusesOpen(t, d, 1)
		if d.Soft() != 1 {
			t.Errorf("%d: a refused call wrote, or made firm", n)
		}
		d.Crash(0, 0)
		refusesFormat(t, d, 1)
		refusesOpen(t, d, 7)
		d.Up()
		same(t, d, fresh(t, n))
	}
}

// 8.1: a disk on which nothing counts.
func TestOpenOfNothing(t *testing.T) {
	for _, n := range []int{3, 4, 240} {
		d := fresh(t, n)
		refusesOpen(t, d, 4)
		for i := range n {
			write(t, d, i, framed(t, 2, "page"))
		}
		refusesOpen(t, d, 4)
		p, err := Format(d)
		wants(t, err, 0, "Format")
		stands(t, p, &book{size: n, gen: 1})
	}
}

// 8.1: Open answers what counts, whatever lies beside it.
func TestOpenTakesWhatCounts(t *testing.T) {
	w := at(t, 7, 8, 2)
	w.commit(3)
	lies, err := w.d.Read(1)
	wants(t, err, 0, "Read")
	lies[50]++
	write(t, w.d, 1, lies)
	w.b.gen, w.b.root = 8, 2
	w.open()
	w.commit(0)
	w.open()
}

// 8.1: the generation 2^32 - 1: Format is refused, and nothing is changed.
func TestFormatAtTheLastGeneration(t *testing.T) {
	for _, n := range []int{3, 6, 240} {
		w, other := at(t, n, math.MaxUint32, 1), at(t, n, math.MaxUint32, 1)
		w.format()
		same(t, w.d, other.d)
		w.open()
		w.d.Crash(0, 0)
		refusesFormat(t, w.d, 7)
		refusesOpen(t, w.d, 7)
		w.d.Up()
		same(t, w.d, other.d)
		w.open()
	}
}

// 8.3: the generation 2^32 - 1: it is reached by a commit, and none goes beyond it.
func TestCommitAtTheLastGeneration(t *testing.T) {
	w := at(t, 8, math.MaxUint32-2, 3)
	w.commit(3)
	w.add("new")
	w.drop(2)
	w.commit(5)
	if w.p.Gen() != math.MaxUint32 {
		t.Fatalf("generation %d", w.p.Gen())
	}
	w.add("newer")
	w.drop(4)
	want := content(t, w.d)
	for _, root := range []int{0, 2, 3, 5} {
		w.commit(root)
	}
	for _, root := range []int{1, 4, 6, 240, -1} {
		wants(t, w.p.Commit(root), 1, "Commit", root)
	}
	w.d.Crash(1, 0)
	w.b.down = true
	w.commit(0)
	w.commit(5)
	w.commit(4)
	w.d.Up()
	w.b.down = false
	w.stands()
	for i, p := range content(t, w.d) {
		if p != want[i] {
			t.Errorf("the sector %d was changed", i)
		}
	}
	w.abort()
	w.format()
}

// 8.1: Format of a pager's disk counts on from what counts, not from 1.
func TestFormatManyTimes(t *testing.T) {
	w := formatted(t, 4)
	for i := range 20 {
		w.format()
		if i%3 == 0 {
			w.add("page")
			w.commit(2)
		}
	}
}

// 8.2: data of all lengths; more than 120 bytes are refused, and nothing is changed.
func TestDataOfAllLengths(t *testing.T) {
	w := formatted(t, 140)
	for n := range 121 {
		w.add(strings.Repeat(string(rune('a'+n%26)), n))
	}
	for _, n := range []int{121, 122, 128, 240, 256, 256 + 120, 1 << 16, 1 << 20} {
		w.add(strings.Repeat("x", n))
	}
	w.commit(2)
	w.crash(0, 0)
	w.add(strings.Repeat("\x00", 120))
	w.add("")
	w.commit(122)
}

// 8.2: pages till there is no sector, then one more; dropped, committed, and new again.
func TestFullDisks(t *testing.T) {
	for _, n := range []int{3, 4, 5, 9, 17, 240} {
		w := formatted(t, n)
		w.fill()
		w.drop(2)
		w.add("in its place")
		w.add("more")
		w.commit(n - 1)
		w.add("more")
		w.add(strings.Repeat("x", 121))
		w.drop(n - 1)
		w.add("more")
		w.commit(0)
		w.add("again")
		w.add("more")
		w.commit(n - 1)
		w.drop(2)
		w.abort()
		w.add("more")
		w.crash(0, 5)
	}
}

// 8.2: a new page lies in the least sector, whichever are free.
func TestLeastSector(t *testing.T) {
	for seed := range uint64(20) {
		next := numbers(seed)
		w := formatted(t, 240)
		w.fillTo(next() % 240)
		for range 30 {
			w.drop(2 + next()%238)
		}
		if seed%2 == 0 {
			w.commit(0)
			for range 10 {
				w.drop(2 + next()%238)
			}
		}
		for i := range 15 {
			w.add(strings.Repeat("n", i))
		}
	}
}

// fillTo makes that many pages.
func (w *desk) fillTo(pages int) {
	w.t.Helper()
	w.quiet = true
	for i := range pages {
		w.add(strings.Repeat("g", i%121))
	}
	w.quiet = false
	w.stands()
}

// 8.2: a new page that is dropped isn't there any more, nor behind a commit; its sector is the next one's, who stays.
func TestDropOfANewPage(t *testing.T) {
	w := formatted(t, 8)
	w.add("a")
	w.add("b")
	w.drop(2)
	loads(t, w.p, &book{size: 8}, 2)
	w.drop(2)
	w.commit(2)
	w.add("c")
	w.drop(2)
	w.add("d")
	w.commit(2)
	w.open()
	w.drop(3)
	w.add("e")
	w.drop(4)
	w.add("f")
	w.drop(3)
	w.commit(4)
	w.open()
}

// 8.2: a page of the superblock's that is dropped can be loaded till a commit, and no new one lies in its sector till then.
func TestDropOfAUsedPage(t *testing.T) {
	w := at(t, 8, 3, 3)
	w.drop(3)
	if data, err := w.p.Load(3); data != "ppp" || err != nil {
		t.Fatalf("Load(3) = %q, %v", data, err)
	}
	w.drop(3)
	w.add("new")
	w.commit(3)
	w.commit(5)
	w.drop(3)
	w.add("newer")
	w.commit(3)
	w.open()
}

// 8.3: Abort: what went is there again, what was new isn't; twice, and ahead of all, it does nothing.
func TestAbort(t *testing.T) {
	w := at(t, 8, 3, 3)
	w.abort()
	w.drop(3)
	w.add("a")
	w.add("b")
	w.drop(5)
	w.abort()
	w.abort()
	w.drop(6)
	w.drop(3)
	w.commit(2)
	w.abort()
	w.add("c")
	w.commit(3)
	w.abort()
	w.open()
}

// 8.3: each root that may be, and each that may not.
func TestCommitOfRoots(t *testing.T) {
	w := at(t, 20, 7, 6)
	w.drop(4)
	w.add("new")
	w.add("gone")
	w.drop(9)
	for _, root := range sectors() {
		if root != 0 && !w.b.inUsed(root) {
			w.commit(root)
		}
	}
	for _, root := range []int{0, 2, 3, 8, 5, 8, 0} {
		w.commit(root)
	}
	w.drop(8)
	w.commit(8)
	w.commit(0)
	w.commit(8)
	w.open()
}

// 8.2: Drop of all sectors, of those that are none, too.
func TestDropOfAll(t *testing.T) {
	w := at(t, 20, 7, 6)
	w.add("new")
	for _, i := range sectors() {
		w.drop(i)
	}
	w.commit(0)
	if w.p.Used() != (bits.Set{}) {
		t.Errorf("Used = %v", w.p.Used())
	}
	for _, i := range sectors() {
		w.drop(i)
	}
}

// 8.3: a commit without anything new is the next generation all the same.
func TestCommitOfNothing(t *testing.T) {
	w := formatted(t, 3)
	for range 300 {
		w.commit(0)
	}
	if w.p.Gen() != 301 {
		t.Errorf("generation %d", w.p.Gen())
	}
	w.open()
}

// 8.2: a page's sector with other bytes, or with a frame that isn't a page's.
func TestLoadOfSpoilt(t *testing.T) {
	w := at(t, 5, 9, 2)
	w.add("new")
	for _, i := range []int{2, 3, 4} {
		right, _ := w.d.Read(i)
		for at := range api.Sector {
			spoilt := right
			spoilt[at] ^= byte(at + 1)
			write(t, w.d, i, spoilt)
			refusesLoad(t, w.p, i, 3)
		}
		write(t, w.d, i, api.Page{})
		refusesLoad(t, w.p, i, 3)
		for _, kind := range []int{1, 3, 4, 127, 128, 130, 254, 255} {
			write(t, w.d, i, framed(t, kind, w.b.data[i]))
			refusesLoad(t, w.p, i, 2)
		}
		write(t, w.d, i, right)
		w.stands()
	}
	wants(t, w.d.Flush(), 0, "Flush")
	w.abort()
	w.commit(3)
}

// refusesLoad fails the test, if Load doesn't answer that error, and nothing beside it.
func refusesLoad(t *testing.T, p *Pager, i, want int) {
	t.Helper()
	data, err := p.Load(i)
	wants(t, err, want, "Load", i)
	if data != "" {
		t.Fatalf("Load(%d) = %q beside an error", i, data)
	}
}

// 8.2: a set that names sectors beyond the disk's size: they are used, though none of them can be loaded, nor be a new page's.
func TestSetBeyondTheDisk(t *testing.T) {
	d := fresh(t, 4)
	used := bits.With(bits.With(bits.Set{}, 4), 239)
	wants(t, super.Switch(d, super.Super{Gen: 1, Root: 239, Used: used}), 0, "Switch")
	p := opened(t, d)
	if p.Root() != 239 || p.Used() != used {
		t.Fatalf("root %d, used %v", p.Root(), p.Used())
	}
	for i, want := range map[int]int{4: 1, 239: 1, 2: 4, 3: 4, 5: 4} {
		refusesLoad(t, p, i, want)
	}
	for want := 2; want < 4; want++ {
		if i, err := p.New("page"); i != want || err != nil {
			t.Fatalf("New = %d, %v", i, err)
		}
	}
	_, err := p.New("page")
	wants(t, err, 6, "New")
	wants(t, p.Drop(239), 0, "Drop")
	wants(t, p.Commit(239), 1, "Commit")
	wants(t, p.Commit(4), 0, "Commit")
	if want := (bits.Set{28}); opened(t, d).Used() != want {
		t.Errorf("Used = %v, want %v", p.Used(), want)
	}
}

// 8.1, 8.2, 8.3: a disk that is down; where several errors apply, the one that the chapter names first.
func TestDown(t *testing.T) {
	for _, n := range []int{3, 6, 240} {
		w := at(t, n, 4, 1)
		w.d.Crash(0, 0)
		w.b.down = true
		refusesFormat(t, w.d, 7)
		refusesOpen(t, w.d, 7)
		w.stands()
		w.add("new")
		w.add(strings.Repeat("x", 120))
		w.add(strings.Repeat("x", 121))
		w.commit(0)
		w.commit(2)
		for _, root := range []int{-1, 1, 3, 240, math.MaxInt, math.MinInt} {
			w.commit(root)
		}
		w.drop(3)
		w.drop(2)
		w.drop(2)
		w.commit(2)
		w.abort()
		w.d.Up()
		w.b.down = false
		w.stands()
		w.add("new")
		w.commit(2)
		w.open()
	}
}

// 8.2: a disk that is full and down: ErrSize ahead of ErrSpace, that ahead of ErrDown.
func TestFullAndDown(t *testing.T) {
	w := formatted(t, 5)
	w.fill()
	w.commit(2)
	w.add(strings.Repeat("x", 121))
	w.d.Crash(0, 0)
	w.b.down = true
	w.add("more")
	w.add(strings.Repeat("x", 121))
}

// 8.3: a commit that is refused leaves what is new and what goes: the next one has them.
func TestRefusedCommitChangesNothing(t *testing.T) {
	w := at(t, 9, 4, 3)
	w.add("a")
	w.drop(3)
	wants(t, w.d.Flush(), 0, "Flush")
	w.d.Crash(0, 0)
	w.b.down = true
	w.commit(5)
	w.d.Up()
	w.b.down = false
	w.commit(3)
	w.commit(5)
	w.open()
}

// 8.1, 8.2, 8.3: a nil pager, at each of its calls.
func TestNilPager(t *testing.T) {
	var p *Pager
	if p.Root() != 0 || p.Gen() != 0 || p.Used() != (bits.Set{}) {
		t.Errorf("root %d, generation %d, used %v", p.Root(), p.Gen(), p.Used())
	}
	for _, i := range sectors() {
		refusesLoad(t, p, i, 9)
		wants(t, p.Drop(i), 9, "Drop", i)
		wants(t, p.Commit(i), 9, "Commit", i)
	}
	for _, n := range []int{0, 1, 120, 121, 1000} {
		i, err := p.New(strings.Repeat("x", n))
		wants(t, err, 9, "New", n)
		if i != 0 {
			t.Errorf("New = %d beside an error", i)
		}
	}
	p.Abort()
}

// What is handed out is new: a set that is changed changes no pager.
func TestNothingIsShared(t *testing.T) {
	w := at(t, 9, 4, 3)
	w.add("a")
	used := w.p.Used()
	clear(used[:])
	w.stands()
	w.commit(5)
	w.stands()
}

// 8.1, 8.2, 8.3: two pagers on two disks have nothing to do with each other.
func TestTwoPagers(t *testing.T) {
	one, two := formatted(t, 6), at(t, 9, 20, 2)
	for i := range 12 {
		one.add(strings.Repeat("o", i))
		two.drop(2 + i%5)
		two.add(strings.Repeat("t", i))
		one.drop(2 + i%4)
		one.commit(0)
		one.stands()
		two.stands()
		if i%4 == 3 {
			two.commit(0)
		}
		one.stands()
	}
}

// 8.1, 8.2, 8.3, 8.4: calls in many orders, with the power gone for a while, too.
func TestCallsInManyOrders(t *testing.T) {
	sizes := []int{3, 4, 5, 6, 9, 14, 33, 240}
	for seed := range uint64(64) {
		next := numbers(seed)
		w := formatted(t, sizes[seed%8])
		for range 120 {
			w.anyCall(next)
		}
	}
}

// anyCall does one call, or lets the power go or be back.
func (w *desk) anyCall(next func() int) {
	w.t.Helper()
	kind, sector := next()%32, next()%w.b.size
	switch {
	case kind < 12:
		w.add(sample(next))
	case kind < 19:
		w.drop(sector)
	case kind < 20:
		w.drop(sectors()[next()%30])
	case kind < 25:
		w.commit(sector)
	case kind < 26:
		w.commit(0)
	case kind < 28:
		w.abort()
	case w.b.down:
		w.d.Up()
		w.b.down = false
		w.open()
	case kind < 29:
		w.open()
	case kind < 30:
		w.crash(uint32(next()), next()%200)
	case kind < 31:
		w.d.Crash(uint32(next()), next()%200)
		w.b.down = true
		w.stands()
	case next()%8 == 0:
		w.format()
	}
}

// deed is one call: of what it does, and what for.
type deed struct {
	call string
	data string
	num  int
}

// script is calls of all sorts, one behind the other, from a new disk on.
func script() []deed {
	return []deed{
		{call: "format"},
		{call: "new", data: "a"}, {call: "new", data: strings.Repeat("b", 120)}, {call: "new"}, {call: "commit", num: 3},
		{call: "new", data: "d"}, {call: "drop", num: 2}, {call: "new", data: "e"}, {call: "drop", num: 5},
		{call: "new", data: "f"}, {call: "new", data: "g"}, {call: "commit", num: 6},
		{call: "drop", num: 3}, {call: "new", data: "h"}, {call: "abort"}, {call: "new", data: "i"}, {call: "drop", num: 4},
		{call: "commit", num: 2},
		{call: "commit"},
		{call: "drop", num: 2}, {call: "new", data: "j"}, {call: "new", data: "k"}, {call: "new", data: "l"}, {call: "commit", num: 4},
		{call: "new", data: "m"},
		{call: "format"},
		{call: "new", data: "n"}, {call: "new", data: "o"}, {call: "commit", num: 3},
		{call: "drop", num: 3}, {call: "new", data: "p"}, {call: "commit", num: 4},
		{call: "drop", num: 4}, {call: "drop", num: 2}, {call: "commit"},
	}
}

// do does a deed.
func (w *desk) do(x deed) {
	w.t.Helper()
	switch x.call {
	case "format":
		if w.p == nil {
			w.p, _ = Format(w.d)
			w.b.format()
			w.stands()
		} else {
			w.format()
		}
	case "new":
		w.add(x.data)
	case "drop":
		w.drop(x.num)
	case "abort":
		w.abort()
	case "commit":
		w.commit(x.num)
	}
}

// begun answers a desk with a new disk, behind the first few deeds of the script.
func begun(t *testing.T, many int) *desk {
	t.Helper()
	w := &desk{t: t, d: fresh(t, 9), b: book{size: 9}, quiet: true}
	for _, x := range script()[:many] {
		w.do(x)
	}
	w.quiet = false
	return w
}

// comesBack fails the test, if the pager that is opened behind a crash isn't that of the last commit, or can't go on.
func comesBack(t *testing.T, d *disk.Disk, last book) {
	t.Helper()
	d.Up()
	if last.gen == 0 {
		refusesOpen(t, d, 4)
		return
	}
	w := &desk{t: t, d: d, b: last}
	w.open()
	w.quiet = true
	w.add("on")
	w.drop(2)
	w.commit(0)
	w.quiet = false
	w.open()
}

// 8.4: the power goes between any two calls, with each number of writes kept, and each number of bytes of the next one.
func TestPowerGoesBetweenCalls(t *testing.T) {
	for many := range len(script()) + 1 {
		w := begun(t, many)
		soft := w.d.Soft()
		for whole := range soft + 1 {
			for torn := 0; torn < api.Sector && (whole < soft || torn == 0); torn += 1 + torn%9 {
				w := begun(t, many)
				w.d.Crash(1<<whole-1, torn)
				comesBack(t, w.d, w.b)
			}
		}
		for _, mask := range []uint32{0x55555555, 0xaaaaaaaa, math.MaxUint32 - 1} {
			w := begun(t, many)
			w.d.Crash(mask, 60)
			comesBack(t, w.d, w.b)
		}
	}
}

// inside does the first few steps of a commit or a format, as chapter 7 says them, to a disk: what waits is made firm,
// the superblock is written, that is made firm. No call can look between them, so they are done one by one.
func inside(t *testing.T, d *disk.Disk, next *book, steps int) {
	t.Helper()
	if steps > 0 {
		wants(t, d.Flush(), 0, "Flush")
	}
	if steps > 1 {
		data, err := super.Lay(super.Super{Gen: next.gen, Root: next.root, Used: next.used()})
		wants(t, err, 0, "Lay")
		write(t, d, int(next.gen%2), framed(t, 1, data))
	}
	if steps > 2 {
		wants(t, d.Flush(), 0, "Flush")
	}
}

// switches are the places in the script of what switches to another superblock.
func switches() (l []int) {
	for i, x := range script() {
		if x.call == "commit" || x.call == "format" {
			l = append(l, i)
		}
	}
	return l
}

// behind answers what the book is behind a switch.
func behind(b book, x deed) book {
	if x.call == "commit" {
		b.commit(x.num)
	} else {
		b.format()
	}
	return b
}

// 8.3, 8.4: the sectors are those behind a commit's steps, and no write waits: what the next tests do is what a commit does.
func TestStepsOfACommit(t *testing.T) {
	for _, place := range switches() {
		one, two := begun(t, place), begun(t, place)
		next := behind(two.b, script()[place])
		if next.gen != two.b.gen+1 {
			t.Fatalf("the deed %d is refused", place)
		}
		inside(t, two.d, &next, 3)
		one.do(script()[place])
		same(t, one.d, two.d)
	}
}

// 8.4: the power goes within a commit's first flush: of the pages some are kept, one is torn at each byte; the commit ahead of it stands.
func TestPowerGoesInTheFirstFlush(t *testing.T) {
	for _, place := range switches() {
		for whole := range begun(t, place).d.Soft() {
			for torn := range api.Sector {
				w := begun(t, place)
				w.d.Crash(1<<whole-1, torn)
				comesBack(t, w.d, w.b)
			}
		}
	}
}

// 8.4: the power goes within a commit ahead of the superblock's write: the commit ahead of it stands.
func TestPowerGoesAheadOfTheSuperblock(t *testing.T) {
	for _, place := range switches() {
		for _, mask := range []uint32{0, 1, math.MaxUint32} {
			w := begun(t, place)
			next := behind(w.b, script()[place])
			inside(t, w.d, &next, 1)
			w.d.Crash(mask, 64)
			comesBack(t, w.d, w.b)
		}
	}
}

// 8.4: the superblock is torn at each byte: the commit ahead of it stands, or, where no byte of it is wanting, that one.
func TestPowerGoesInTheSuperblock(t *testing.T) {
	for _, place := range switches() {
		for torn := range api.Sector {
			w := begun(t, place)
			next := behind(w.b, script()[place])
			inside(t, w.d, &next, 2)
			whole, _ := w.d.Read(int(next.gen % 2))
			w.d.Crash(0, torn)
			w.d.Up()
			if left, _ := w.d.Read(int(next.gen % 2)); left == whole {
				comesBack(t, w.d, next)
			} else {
				comesBack(t, w.d, w.b)
			}
		}
	}
}

// 8.4: the superblock is kept, or firm: the commit stands, though it was never answered.
func TestPowerGoesBehindTheSuperblock(t *testing.T) {
	for _, place := range switches() {
		for _, mask := range []uint32{1, math.MaxUint32} {
			for _, steps := range []int{2, 3} {
				w := begun(t, place)
				next := behind(w.b, script()[place])
				inside(t, w.d, &next, steps)
				w.d.Crash(mask, 64)
				comesBack(t, w.d, next)
			}
		}
	}
}

// 8.4: the power goes again and again, at any place of a long life: each time the last commit stands, or the one that was under way.
func TestPowerGoesManyTimes(t *testing.T) {
	for seed := range uint64(40) {
		next := numbers(1000 + seed)
		w := formatted(t, []int{3, 5, 12, 40}[seed%4])
		for range 25 {
			for range next() % 8 {
				w.anyChange(next)
			}
			was := w.b
			was.abort()
			w.b.commit(w.anyRoot(next))
			steps, mask := next()%4, uint32(next())
			inside(t, w.d, &w.b, steps)
			w.d.Crash(mask, next()%200)
			w.d.Up()
			w.p = opened(t, w.d)
			if steps < 2 || steps == 2 && mask%2 == 0 && w.p.Gen() == was.gen {
				w.b = was
			}
			w.stands()
		}
	}
}

// anyChange makes a page, or lets one go.
func (w *desk) anyChange(next func() int) {
	w.t.Helper()
	if next()%3 > 0 {
		w.add(sample(next))
	} else {
		w.drop(2 + next()%(w.b.size-2))
	}
}

// anyRoot answers a root that may be.
func (w *desk) anyRoot(next func() int) int {
	if root := 2 + next()%(w.b.size-2); w.b.inUsed(root) {
		return root
	}
	return 0
}
