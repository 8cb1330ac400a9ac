package disk

import (
	"math"
	"testing"

	"dynamo/api"
	"dynamo/tag"
)

// noSizes are numbers that no disk has as its size; cut to fewer bits, some of them would be.
var noSizes = []int{0, -1, -2, -240, 241, 242, 256, 257, 1000, 1<<16 + 1, 1<<31 - 1, 1 << 31, 1<<32 + 1, 1<<62 + 3, math.MaxInt, math.MinInt, math.MinInt + 1}

// masks are none, all, every other bit, both halves, one bit alone, and all but one.
var masks = []uint32{0, math.MaxUint32, 0x55555555, 0xaaaaaaaa, 0xffff, 0xffff0000, 1, 2, 4, 1 << 31, ^uint32(1), ^uint32(2), ^uint32(4), ^uint32(1 << 31), 0x33333333}

// tears are how many bytes a torn write leaves, as Crash is told, and as many as it does.
var tears = []struct{ torn, left int }{
	{0, 0}, {1, 1}, {2, 2}, {3, 3}, {63, 63}, {64, 64}, {126, 126}, {127, 127}, {128, 0}, {129, 1}, {255, 127}, {256, 0}, {257, 1}, {1000, 104},
	{-1, 0}, {-2, 0}, {-3, 0}, {-127, 0}, {-128, 0}, {-129, 0}, {-1000, 0}, {math.MinInt, 0}, {math.MinInt + 1, 0},
	{math.MaxInt, 127}, {math.MaxInt - 1, 126}, {math.MaxInt - 127, 0}, {1 << 32, 0}, {1<<32 + 5, 5},
}

// note is a write, as words keep it.
type note struct {
	at   int
	page api.Page
}

// words is a disk as the chapter says it, reckoned another way than the layer does: it keeps what was
// firm and the writes, and works out each byte when it is asked, from the last write backward.
type words struct {
	firm   []api.Page
	writes []note
	down   bool
}

// read answers a sector: the last write to it, else what was firm.
func (w *words) read(at int) api.Page {
	for k := len(w.writes) - 1; k >= 0; k-- {
		if w.writes[k].at == at {
			return w.writes[k].page
		}
	}
	return w.firm[at]
}

// write adds a write, if the disk is up and there is such a sector.
func (w *words) write(at int, p api.Page) {
	if !w.down && at >= 0 && at < len(w.firm) {
		w.writes = append(w.writes, note{at, p})
	}
}

// flush makes all firm, if the disk is up.
func (w *words) flush() {
	if w.down {
		return
	}
	next := make([]api.Page, len(w.firm))
	for at := range next {
		next[at] = w.read(at)
	}
	w.firm, w.writes = next, nil
}

// keeps tells whether a mask keeps the i-th write.
func keeps(mask uint32, i int) bool {
	for i >= 32 {
		i -= 32
	}
	for range i {
		mask /= 2
	}
	return mask%2 == 1
}

// crash lets the power go; left is how many bytes the torn write leaves.
func (w *words) crash(mask uint32, left int) {
	torn := 0
	for torn < len(w.writes) && keeps(mask, torn) {
		torn++
	}
	next := make([]api.Page, len(w.firm))
	for at := range next {
		for b := range next[at] {
			next[at][b] = w.behind(at, b, mask, torn, left)
		}
	}
	w.firm, w.writes, w.down = next, nil, true
}

// behind answers a byte of a sector behind a crash in which the torn-th write is torn.
func (w *words) behind(at, b int, mask uint32, torn, left int) byte {
	for k := len(w.writes) - 1; k >= 0; k-- {
		if w.writes[k].at == at && (keeps(mask, k) || k == torn && b < left) {
			return w.writes[k].page[b]
		}
	}
	return w.firm[at][b]
}

// pair is a disk, and the words that it is held against behind each call.
type pair struct {
	t *testing.T
	d *Disk
	w *words
}

// fresh answers a new disk.
func fresh(t *testing.T, n int) *Disk {
	t.Helper()
	d, err := New(n)
	if err != nil || d == nil {
		t.Fatalf("New(%d) = %v, %v", n, d, err)
	}
	return d
}

// both answers a new disk and its words.
func both(t *testing.T, n int) *pair {
	t.Helper()
	p := &pair{t, fresh(t, n), &words{firm: make([]api.Page, n)}}
	p.alike("New")
	return p
}

// alike fails the test, if the disk isn't as the words are. A disk that is down can't be read: that is asked.
func (p *pair) alike(call string) {
	p.t.Helper()
	if n := p.d.Size(); n != len(p.w.firm) {
		p.t.Fatalf("%s: Size() = %d, want %d", call, n, len(p.w.firm))
	}
	if n := p.d.Soft(); n != len(p.w.writes) {
		p.t.Fatalf("%s: Soft() = %d, want %d", call, n, len(p.w.writes))
	}
	for at := range p.w.firm {
		got, err := p.d.Read(at)
		if p.w.down {
			wants(p.t, err, api.ErrDown, call+", Read", at)
			if got != (api.Page{}) {
				p.t.Fatalf("%s: Read(%d) = %v beside an error", call, at, got)
			}
			continue
		}
		if want := p.w.read(at); err != nil || got != want {
			p.t.Fatalf("%s: Read(%d) = %v, %v, want %v", call, at, got, err, want)
		}
	}
}

// write writes to both.
func (p *pair) write(at int, page api.Page) {
	p.t.Helper()
	err := p.d.Write(at, page)
	switch {
	case p.w.down:
		wants(p.t, err, api.ErrDown, "Write", at)
	case at < 0 || at >= len(p.w.firm):
		wants(p.t, err, api.ErrArg, "Write", at)
	case err != nil:
		p.t.Fatalf("Write(%d): %v", at, err)
	}
	p.w.write(at, page)
	p.alike("Write")
}

// flush flushes both.
func (p *pair) flush() {
	p.t.Helper()
	err := p.d.Flush()
	if p.w.down {
		wants(p.t, err, api.ErrDown, "Flush")
	} else if err != nil {
		p.t.Fatalf("Flush: %v", err)
	}
	p.w.flush()
	p.alike("Flush")
}

// crash lets the power go at both; left is how many bytes torn leaves.
func (p *pair) crash(mask uint32, torn, left int) {
	p.t.Helper()
	p.d.Crash(mask, torn)
	p.w.crash(mask, left)
	p.alike("Crash")
}

// up lets both be up.
func (p *pair) up() {
	p.t.Helper()
	p.d.Up()
	p.w.down = false
	p.alike("Up")
}

// wants fails the test, if an error has another number than that.
func wants(t *testing.T, err error, want api.Errno, call string, args ...any) {
	t.Helper()
	if tag.Num(err) != int(want) || !tag.Same(err, want) {
		t.Errorf("%s%v: error %v, want %v", call, args, err, want)
	}
}

// full answers a page all of whose bytes are b.
func full(b byte) (p api.Page) {
	for i := range p {
		p[i] = b
	}
	return p
}

// begun answers a page whose first n bytes are of head, the others of rest.
func begun(head api.Page, n int, rest api.Page) (p api.Page) {
	for i := range p {
		p[i] = rest[i]
		if i < n {
			p[i] = head[i]
		}
	}
	return p
}

// numbers answers a function that makes numbers from 0 on, always the same ones of one seed.
func numbers(seed uint64) func() int {
	return func() int {
		seed = seed*6364136223846793005 + 1442695040888963407
		return int(seed >> 33)
	}
}

// mixed answers a page no two bytes of which, near each other, are alike, and another one of each number.
func mixed(n int) (p api.Page) {
	next := numbers(uint64(n))
	for i := range p {
		p[i] = byte(next() >> 7)
	}
	return p
}

// reads fails the test, if a sector is another page.
func reads(t *testing.T, d *Disk, at int, want api.Page) {
	t.Helper()
	if got, err := d.Read(at); err != nil || got != want {
		t.Errorf("Read(%d) = %v, %v, want %v", at, got, err, want)
	}
}

// 4.1: a disk of each size is up, of zero bytes, with nothing that isn't firm.
func TestNew(t *testing.T) {
	for n := 1; n <= 240; n++ {
		both(t, n)
	}
	if api.MaxDisk != 240 || api.Sector != 128 {
		t.Errorf("MaxDisk %d, Sector %d", api.MaxDisk, api.Sector)
	}
}

// 4.1: ErrArg of an n that isn't 1 to 240.
func TestNewOfWrong(t *testing.T) {
	for _, n := range noSizes {
		d, err := New(n)
		wants(t, err, api.ErrArg, "New", n)
		if d != nil {
			t.Errorf("New(%d): a disk beside an error", n)
		}
	}
}

// 4.1: writes are counted, not sectors: also those to one sector, and of the same bytes.
func TestSoft(t *testing.T) {
	d := fresh(t, 3)
	for i, at := range []int{0, 0, 2, 1, 1, 1, 0} {
		if err := d.Write(at, full(7)); err != nil || d.Soft() != i+1 {
			t.Errorf("write %d: Soft() = %d, %v", i, d.Soft(), err)
		}
	}
	if _, err := d.Read(0); err != nil || d.Soft() != 7 {
		t.Errorf("Read: Soft() = %d, %v", d.Soft(), err)
	}
	if err := d.Flush(); err != nil || d.Soft() != 0 {
		t.Errorf("Flush: Soft() = %d, %v", d.Soft(), err)
	}
	if err := d.Write(1, api.Page{}); err != nil || d.Soft() != 1 {
		t.Errorf("Write: Soft() = %d, %v", d.Soft(), err)
	}
	d.Crash(math.MaxUint32, 0)
	if d.Soft() != 0 || d.Size() != 3 {
		t.Errorf("Crash: Soft() = %d, Size() = %d", d.Soft(), d.Size())
	}
}

// 4.2: what is read is the last write, firm or not, and of no other sector.
func TestReadAndWrite(t *testing.T) {
	for _, n := range []int{1, 2, 3, 17, 240} {
		p := both(t, n)
		for k := range 2 {
			for at := range n {
				p.write(at, mixed(1000*k+at))
			}
			p.write(n/2, mixed(9000+k))
			p.write(n/2, mixed(9500+k))
			p.flush()
		}
		p.write(n-1, api.Page{})
		p.flush()
	}
}

// 4.2: ErrArg of no sector; nothing is changed by it.
func TestNoSector(t *testing.T) {
	for _, n := range []int{1, 2, 128, 240} {
		p := both(t, n)
		for _, at := range []int{0, n - 1} {
			p.write(at, mixed(at))
		}
		for _, at := range []int{-1, n, n + 1, -n, 240, 241, 256, 1 << 16, 1 << 32, math.MinInt, math.MaxInt} {
			if at >= 0 && at < n {
				continue
			}
			p.write(at, full(9))
			got, err := p.d.Read(at)
			wants(t, err, api.ErrArg, "Read", at)
			if got != (api.Page{}) {
				t.Errorf("Read(%d) of %d sectors = %v beside an error", at, n, got)
			}
		}
		p.crash(0, 0, 0) // of the writes that were refused nothing is firm
		p.up()
	}
}

// 4.2: what is flushed no crash takes.
func TestFlush(t *testing.T) {
	for _, mask := range masks {
		p := both(t, 4)
		p.flush()
		for at := range 3 {
			p.write(at, full(byte(at+1)))
		}
		p.flush()
		p.flush()
		p.crash(mask, 5, 5)
		p.up()
		for at := range 3 {
			reads(t, p.d, at, full(byte(at+1)))
		}
		reads(t, p.d, 3, api.Page{})
	}
}

// 4.2, 4.3: while it is down each call is refused with ErrDown, at no sector too, and changes nothing.
func TestDown(t *testing.T) {
	for _, n := range []int{1, 3, 240} {
		p := both(t, n)
		p.write(0, mixed(1))
		p.flush()
		p.write(n-1, mixed(2))
		p.crash(0, 9, 9)
		for _, at := range []int{0, n - 1, n, -1, 240, math.MinInt, math.MaxInt} {
			p.write(at, full(8))
			got, err := p.d.Read(at)
			wants(t, err, api.ErrDown, "Read", at)
			if got != (api.Page{}) {
				t.Errorf("Read(%d) = %v beside an error", at, got)
			}
		}
		p.flush()
		p.up()
		p.write(0, mixed(3))
		p.flush()
	}
}

// 4.3: the chapter's example.
func TestCrashExample(t *testing.T) {
	d := fresh(t, 1)
	if err := d.Write(0, full(1)); err != nil {
		t.Fatal(err)
	}
	d.Crash(0, 3)
	d.Up()
	reads(t, d, 0, api.Page{1, 1, 1})
}

// 4.3: how many bytes are left of the torn write, over zero bytes, and over what was firm.
func TestTorn(t *testing.T) {
	for _, c := range tears {
		p := both(t, 3)
		p.write(0, full(5))
		p.crash(0, c.torn, c.left)
		p.up()
		reads(t, p.d, 0, begun(full(5), c.left, api.Page{}))
		p.write(1, mixed(1))
		p.flush()
		p.write(1, mixed(2))
		p.crash(0, c.torn, c.left)
		p.up()
		reads(t, p.d, 1, begun(mixed(2), c.left, mixed(1)))
		p.write(2, mixed(3))
		p.crash(1, c.torn, c.left) // a write that is kept is whole
		p.up()
		reads(t, p.d, 2, mixed(3))
	}
}

// 4.3: only the first one that isn't kept is torn; the others are lost whole.
func TestOnlyTheFirstIsTorn(t *testing.T) {
	d := fresh(t, 4)
	for at := range 4 {
		if err := d.Write(at, full(byte(at+1))); err != nil {
			t.Fatal(err)
		}
	}
	d.Crash(0b0001, 100)
	d.Up()
	reads(t, d, 0, full(1))
	reads(t, d, 1, begun(full(2), 100, api.Page{}))
	reads(t, d, 2, api.Page{})
	reads(t, d, 3, api.Page{})
}

// 4.3: a torn write of no bytes is the torn one all the same: the next one is lost.
func TestTornOfNoBytes(t *testing.T) {
	d := fresh(t, 2)
	for at := range 2 {
		if err := d.Write(at, full(6)); err != nil {
			t.Fatal(err)
		}
	}
	d.Crash(0, 128)
	d.Up()
	reads(t, d, 0, api.Page{})
	reads(t, d, 1, api.Page{})
}

// 4.3: several writes to one sector: a torn one lies over the kept ones ahead of it, under those behind it.
func TestTornAmongKept(t *testing.T) {
	for _, c := range []struct {
		mask uint32
		want api.Page
	}{
		{0b000, begun(full(1), 10, full(9))},
		{0b001, begun(full(2), 10, full(1))},
		{0b010, full(2)},
		{0b011, begun(full(3), 10, full(2))},
		{0b100, full(3)}, {0b101, full(3)}, {0b110, full(3)}, {0b111, full(3)},
	} {
		p := both(t, 2)
		p.write(1, full(9))
		p.flush()
		for k := range 3 {
			p.write(1, full(byte(k+1)))
		}
		p.crash(c.mask, 10, 10)
		p.up()
		reads(t, p.d, 1, c.want)
		reads(t, p.d, 0, api.Page{})
	}
}

// 4.3: behind 32 writes the mask begins anew: each write to a sector of its own, and all to one.
func TestMaskComesRound(t *testing.T) {
	for _, n := range []int{31, 32, 33, 34, 63, 64, 65, 97, 240} {
		for _, mask := range masks {
			p, q := both(t, 240), both(t, 1)
			for i := range n {
				if p.d.Write(i, mixed(i)) != nil || q.d.Write(0, mixed(i)) != nil {
					t.Fatalf("write %d is refused", i)
				}
				p.w.write(i, mixed(i))
				q.w.write(0, mixed(i))
			}
			for _, x := range []*pair{p, q} {
				x.alike("writes")
				x.crash(mask, 77, 77)
				x.up()
			}
		}
	}
	d := fresh(t, 70)
	for i := range 70 {
		if err := d.Write(i, full(byte(i+1))); err != nil {
			t.Fatal(err)
		}
	}
	d.Crash(0b10, 4)
	d.Up()
	reads(t, d, 0, begun(full(1), 4, api.Page{}))
	for i := 1; i < 70; i++ {
		if i == 1 || i == 33 || i == 65 {
			reads(t, d, i, full(byte(i+1)))
		} else {
			reads(t, d, i, api.Page{})
		}
	}
}

// 4.3: writes are counted from the last flush, or crash, on.
func TestMaskCountsFromTheFlush(t *testing.T) {
	p := both(t, 4)
	p.write(0, full(1))
	p.flush()
	p.write(1, full(2))
	p.crash(1, 8, 8)
	p.up()
	reads(t, p.d, 1, full(2))
	p.write(2, full(3))
	p.write(3, full(4))
	p.crash(2, 8, 8)
	p.up()
	reads(t, p.d, 2, begun(full(3), 8, api.Page{}))
	reads(t, p.d, 3, full(4))
}

// 4.3: a crash with nothing that isn't firm, and one while the disk is down, take nothing; it is down then.
func TestCrashOfNothing(t *testing.T) {
	for _, mask := range masks {
		p := both(t, 2)
		p.crash(mask, 50, 50)
		p.up()
		p.write(0, mixed(1))
		p.flush()
		p.crash(mask, 50, 50)
		p.up()
		p.write(1, mixed(2))
		p.crash(mask, 50, 50)
		p.crash(^mask, 60, 60)
		p.crash(mask, 70, 70)
		p.up()
		p.write(1, mixed(3))
		p.flush()
	}
}

// 4.3: Up while it is up changes nothing: what wasn't firm isn't firm by it, nor lost.
func TestUpWhileUp(t *testing.T) {
	p := both(t, 2)
	p.up()
	p.write(0, mixed(1))
	p.up()
	p.write(1, mixed(2))
	p.up()
	p.crash(2, 20, 20)
	p.up()
	p.up()
	reads(t, p.d, 0, begun(mixed(1), 20, api.Page{}))
	reads(t, p.d, 1, mixed(2))
}

// 4.1, 4.2, 4.3: of nil: ErrArg, 0, nothing.
func TestNil(t *testing.T) {
	var d *Disk
	if d.Size() != 0 || d.Soft() != 0 {
		t.Errorf("Size() = %d, Soft() = %d", d.Size(), d.Soft())
	}
	for range 2 {
		for _, at := range []int{0, -1, 1, 240, math.MinInt, math.MaxInt} {
			got, err := d.Read(at)
			wants(t, err, api.ErrArg, "Read", at)
			if got != (api.Page{}) {
				t.Errorf("Read(%d) = %v beside an error", at, got)
			}
			wants(t, d.Write(at, full(1)), api.ErrArg, "Write", at)
		}
		wants(t, d.Flush(), api.ErrArg, "Flush")
		d.Crash(0, 0)
		d.Crash(math.MaxUint32, math.MinInt)
		d.Up()
	}
}

// 4.2, 4.3: each way to lay up to five writes on two sectors, with each mask of their bits, and several tears.
func TestEachFewWrites(t *testing.T) {
	for n := range 6 {
		for where := range 1 << n {
			for mask := range 1 << n {
				for _, c := range []struct{ torn, left int }{{0, 0}, {1, 1}, {127, 127}, {128, 0}} {
					p := both(t, 2)
					p.w.firm = []api.Page{full(100), full(101)}
					for at, page := range p.w.firm {
						if p.d.Write(at, page) != nil {
							t.Fatal("a write is refused")
						}
					}
					if p.d.Flush() != nil {
						t.Fatal("a flush is refused")
					}
					for i := range n {
						p.write(where>>i&1, full(byte(i+1)))
					}
					p.crash(uint32(mask), c.torn, c.left)
					p.up()
				}
			}
		}
	}
}

// step does one call of those that a number chooses, to both.
func (p *pair) step(next func() int) {
	p.t.Helper()
	n := len(p.w.firm)
	switch next() % 24 {
	case 0:
		p.flush()
	case 1:
		c := tears[next()%len(tears)]
		p.crash(masks[next()%len(masks)], c.torn, c.left)
	case 2:
		torn := next() % 128
		p.crash(uint32(next())<<1^uint32(next()), torn, torn)
	case 3, 4, 5:
		p.up()
	case 6:
		p.write([]int{-1, n, 0, n - 1, math.MaxInt, math.MinInt}[next()%6], mixed(next()))
	default:
		p.write(next()%min(n, 5), mixed(next()))
	}
}

// 4.1, 4.2, 4.3: calls in many orders; behind each of them all is as the chapter's words say.
func TestManyOrders(t *testing.T) {
	for _, n := range []int{1, 2, 5, 240} {
		for seed := range 12 {
			p, next := both(t, n), numbers(uint64(100*n+seed))
			for range 400 {
				p.step(next)
			}
		}
	}
}

// 4.4: behind a crash each sector is as it was firm, or as a write left it, or its beginning is of one
// write, the rest of what was; that at most one sector is torn, 4.3 says besides.
func TestSectorBehindCrash(t *testing.T) {
	for seed := range 600 {
		next := numbers(uint64(seed))
		d := fresh(t, 6)
		left := make([][]api.Page, 6) // of each sector what was firm, and its writes
		for at := range left {
			left[at] = append(left[at], mixed(next()))
			if err := d.Write(at, left[at][0]); err != nil {
				t.Fatal(err)
			}
		}
		if err := d.Flush(); err != nil {
			t.Fatal(err)
		}
		for range next() % 70 {
			at, page := next()%5, mixed(next())
			left[at] = append(left[at], page)
			if err := d.Write(at, page); err != nil {
				t.Fatal(err)
			}
		}
		d.Crash(uint32(next())<<1^uint32(next()), next())
		d.Up()
		torn := 0
		for at, pages := range left {
			got, err := d.Read(at)
			whole, part := made(got, pages)
			if err != nil || !whole && !part {
				t.Errorf("seed %d: Read(%d) = %v, %v: of no write", seed, at, got, err)
			}
			if !whole {
				torn++
			}
		}
		if torn > 1 {
			t.Errorf("seed %d: %d sectors are torn", seed, torn)
		}
	}
}

// made tells whether a page is one of those, and whether it is begun by one of them and ends as one ahead of that does.
func made(got api.Page, pages []api.Page) (whole, part bool) {
	for i, page := range pages {
		whole = whole || got == page
		for _, was := range pages[:i] {
			n := 0
			for n < len(got) && got[n] == page[n] {
				n++
			}
			part = part || got == begun(page, n, was)
		}
	}
	return whole, part
}

// What is handed in isn't kept, and what is handed out is new: changed, it changes no disk.
func TestPagesAreNotShared(t *testing.T) {
	d, other := fresh(t, 2), fresh(t, 2)
	page := full(3)
	if err := d.Write(0, page); err != nil {
		t.Fatal(err)
	}
	page[0] = 99
	reads(t, d, 0, full(3))
	got, err := d.Read(0)
	if err != nil {
		t.Fatal(err)
	}
	got[1] = 98
	reads(t, d, 0, full(3))
	d.Crash(1, 0)
	d.Up()
	reads(t, d, 0, full(3))
	reads(t, other, 0, api.Page{})
	if other.Soft() != 0 {
		t.Errorf("another disk has %d writes that aren't firm", other.Soft())
	}
}

// What was firm stays as it is while writes that aren't firm go over it.
func TestFirmIsApartFromSeen(t *testing.T) {
	p := both(t, 1)
	p.write(0, mixed(1))
	p.flush()
	for k := range 40 {
		p.write(0, mixed(k+2))
	}
	p.crash(0, 0, 0)
	p.up()
	reads(t, p.d, 0, mixed(1))
}
