package super

import (
	"go/ast"
	"go/parser"
	"go/token"
	"math"
	"slices"
	"strings"
	"testing"

	"dynamo/api"
	"dynamo/bits"
	"dynamo/disk"
	"dynamo/frame"
	"dynamo/tag"
)

// gens are generations, 0 and the greatest one among them, and those on both sides of a byte's end.
var gens = []uint32{
	0, 1, 2, 3, 7, 255, 256, 257, 258, 1000, 1<<16 - 1, 1 << 16, 1<<16 + 1, 1<<24 - 1, 1 << 24, 1<<24 + 1,
	0x01020304, 0xfffefdfc, 1<<31 - 1, 1 << 31, 1<<31 + 1, math.MaxUint32 - 1, math.MaxUint32,
}

// roots are those that may be, and others; cut to a byte, or turned round, some of the others would be.
var roots = []int{
	0, 1, 2, 3, 7, 8, 9, 100, 127, 128, 129, 238, 239, 240, 241, 247, 248, 254, 255, 256, 257, 258, 480, 495, 496, 512, 1000,
	-1, -2, -8, -9, -16, -17, -239, -240, -254, -256, -1000, 1 << 16, 1<<16 + 2, 1<<31 - 1, 1 << 31, 1 << 32, 1<<32 + 2, 1<<62 + 9,
	math.MaxInt, math.MaxInt - 1, math.MinInt, math.MinInt + 1, math.MinInt + 2,
}

// members tells of each number from 0 to 239 whether it is in a set.
type members [240]bool

// those answers the members for which in holds.
func those(in func(n int) bool) (m members) {
	for n := range m {
		m[n] = in(n)
	}
	return m
}

// pages answers members of all numbers from 2 on.
func pages() members { return those(func(n int) bool { return n >= 2 }) }

// numbers answers a function that makes numbers from 0 on, always the same ones of one seed.
func numbers(seed uint64) func() int {
	return func() int {
		seed = seed*6364136223846793005 + 1442695040888963407
		return int(seed >> 33)
	}
}

// mixed answers members from 2 on of which about share of 256 are in.
func mixed(seed uint64, share int) members {
	next := numbers(seed)
	return those(func(n int) bool { return next()>>8%256 < share && n >= 2 })
}

// kinds are members of many kinds, some of them with 0 or 1.
func kinds() []members {
	l := []members{
		{},
		pages(),
		those(func(int) bool { return true }),
		those(func(n int) bool { return n != 0 }),
		those(func(n int) bool { return n != 1 }),
		those(func(n int) bool { return n == 0 }),
		those(func(n int) bool { return n == 1 }),
		those(func(n int) bool { return n < 2 }),
		those(func(n int) bool { return n < 3 }),
		those(func(n int) bool { return n >= 2 && n%2 == 0 }),
		those(func(n int) bool { return n >= 2 && n%2 == 1 }),
		those(func(n int) bool { return n >= 2 && n < 239 }),
		those(func(n int) bool { return n > 2 }),
		mixed(1, 20), mixed(2, 128), mixed(3, 240),
	}
	for _, one := range []int{2, 7, 8, 9, 100, 127, 128, 238, 239} {
		l = append(l, those(func(n int) bool { return n == one }), those(func(n int) bool { return n >= 2 && n != one }))
	}
	return l
}

// setOf answers the bytes of members: the highest number of a byte first, each doubled by those behind it.
func setOf(m members) (s bits.Set) {
	for at := range s {
		for n := 8*at + 7; n >= 8*at; n-- {
			s[at] *= 2
			if m[n] {
				s[at]++
			}
		}
	}
	return s
}

// membersOf answers what is in the bytes of a set, halved number by number.
func membersOf(set string) (m members) {
	for at := range len(set) {
		b := set[at]
		for n := 8 * at; n < 8*at+8; n++ {
			m[n] = b%2 == 1
			b /= 2
		}
	}
	return m
}

// of answers a superblock.
func of(gen uint32, root int, m members) Super { return Super{Gen: gen, Root: root, Used: setOf(m)} }

// mayBe tells whether one is right, as the chapter says it.
func mayBe(gen uint32, root int, m members) bool {
	rootMayBe := root == 0
	for n, in := range m {
		if n < 2 && in {
			return false
		}
		if n >= 2 && in && n == root {
			rootMayBe = true
		}
	}
	return gen != 0 && rootMayBe
}

// words answers a right one's data as the chapter says it, from the last byte to the first.
func words(gen uint32, root int, m members) string {
	set := setOf(m)
	backward := slices.Clone(set[:])
	slices.Reverse(backward)
	backward = append(backward, byte(root))
	for range 4 {
		backward = append(backward, byte(gen%256))
		gen /= 256
	}
	slices.Reverse(backward)
	return string(backward)
}

// read answers what data are as the chapter says it; false, if they aren't a right one's.
func read(data string) (Super, bool) {
	if len(data) != 35 {
		return Super{}, false
	}
	gen := uint32(0)
	for i := range 4 {
		gen = gen*256 + uint32(data[i])
	}
	root, m := int(data[4]), membersOf(data[5:])
	if !mayBe(gen, root, m) {
		return Super{}, false
	}
	return of(gen, root, m), true
}

// wants fails the test, if an error has another number than that.
func wants(t *testing.T, err error, want api.Errno, call string, args ...any) {
	t.Helper()
	if tag.Num(err) != int(want) || !tag.Same(err, want) {
		t.Errorf("%s%v: error %v, want %v", call, args, err, want)
	}
}

// lay answers the data of one that is right.
func lay(t *testing.T, s Super) string {
	t.Helper()
	data, err := Lay(s)
	if err != nil {
		t.Fatalf("Lay(%v): error %v", s, err)
	}
	return data
}

// reads fails the test, if data aren't read as that.
func reads(t *testing.T, data string, want Super) {
	t.Helper()
	if got, err := Read(data); err != nil || got != want {
		t.Errorf("Read(%q) = %v, %v, want %v", data, got, err, want)
	}
}

// refusesRead fails the test, if Read doesn't answer ErrForm, and nothing beside it.
func refusesRead(t *testing.T, data string) {
	t.Helper()
	s, err := Read(data)
	wants(t, err, api.ErrForm, "Read", data)
	if s != (Super{}) {
		t.Errorf("Read(%q) = %v beside an error", data, s)
	}
}

// refusesLay fails the test, if one is right, or is laid.
func refusesLay(t *testing.T, s Super) {
	t.Helper()
	if Right(s) {
		t.Errorf("Right(%v)", s)
	}
	data, err := Lay(s)
	wants(t, err, api.ErrArg, "Lay", s)
	if data != "" {
		t.Errorf("Lay(%v) = %q beside an error", s, data)
	}
}

// counts fails the test, if another superblock counts.
func counts(t *testing.T, d *disk.Disk, want Super) {
	t.Helper()
	if got, err := Best(d); err != nil || got != want {
		t.Errorf("Best = %v, %v, want %v", got, err, want)
	}
}

// refusesBest fails the test, if Best doesn't answer that error, and nothing beside it.
func refusesBest(t *testing.T, d *disk.Disk, want api.Errno) {
	t.Helper()
	s, err := Best(d)
	wants(t, err, want, "Best")
	if s != (Super{}) {
		t.Errorf("Best = %v beside an error", s)
	}
}

// switches switches to one that is right on a disk that is up.
func switches(t *testing.T, d *disk.Disk, s Super) {
	t.Helper()
	if err := Switch(d, s); err != nil {
		t.Fatalf("Switch(%v): error %v", s, err)
	}
}

// fresh answers a new disk.
func fresh(t *testing.T, n int) *disk.Disk {
	t.Helper()
	d, err := disk.New(n)
	if err != nil {
		t.Fatalf("New(%d): error %v", n, err)
	}
	return d
}

// flush makes all firm on a disk that is up.
func flush(t *testing.T, d *disk.Disk) {
	t.Helper()
	if err := d.Flush(); err != nil {
		t.Fatalf("Flush: error %v", err)
	}
}

// write writes a sector.
func write(t *testing.T, d *disk.Disk, at int, p api.Page) {
	t.Helper()
	if err := d.Write(at, p); err != nil {
		t.Fatalf("Write(%d): error %v", at, err)
	}
}

// framed answers a frame that may be.
func framed(t *testing.T, kind int, data string) api.Page {
	t.Helper()
	p, err := frame.Lay(kind, data)
	if err != nil {
		t.Fatalf("frame.Lay(%d, %q): error %v", kind, data, err)
	}
	return p
}

// put writes a superblock's frame in any sector, whatever its generation.
func put(t *testing.T, d *disk.Disk, at int, s Super) {
	t.Helper()
	write(t, d, at, framed(t, 1, lay(t, s)))
}

// full answers a page all of whose bytes are b.
func full(b byte) (p api.Page) {
	for i := range p {
		p[i] = b
	}
	return p
}

// content answers all sectors of a disk that is up.
func content(t *testing.T, d *disk.Disk) []api.Page {
	t.Helper()
	l := make([]api.Page, d.Size())
	for i := range l {
		p, err := d.Read(i)
		if err != nil {
			t.Fatalf("sector %d: error %v", i, err)
		}
		l[i] = p
	}
	return l
}

// remains fails the test, if a disk that is up has other sectors than those, or another number of writes that aren't firm.
func remains(t *testing.T, d *disk.Disk, want []api.Page, soft int) {
	t.Helper()
	for i, p := range content(t, d) {
		if p != want[i] {
			t.Fatalf("sector %d = %v, want %v", i, p, want[i])
		}
	}
	if d.Soft() != soft {
		t.Fatalf("Soft() = %d, want %d", d.Soft(), soft)
	}
}

// crash lets the power go, and the disk be up again.
func crash(d *disk.Disk, mask uint32, torn int) {
	d.Crash(mask, torn)
	d.Up()
}

// 7.1: superblocks written out.
func TestSuperblocksWrittenOut(t *testing.T) {
	for _, c := range []struct {
		s    Super
		data string
	}{
		{Super{Gen: 1}, "\x00\x00\x00\x01\x00" + strings.Repeat("\x00", 30)},
		{Super{Gen: 255}, "\x00\x00\x00\xff\x00" + strings.Repeat("\x00", 30)},
		{Super{Gen: 256, Root: 2, Used: bits.Set{4}}, "\x00\x00\x01\x00\x02\x04" + strings.Repeat("\x00", 29)},
		{Super{Gen: 0x01020304, Root: 9, Used: bits.Set{0xfc, 2}}, "\x01\x02\x03\x04\x09\xfc\x02" + strings.Repeat("\x00", 28)},
		{Super{Gen: 7, Used: bits.Set{0: 4, 29: 128}}, "\x00\x00\x00\x07\x00\x04" + strings.Repeat("\x00", 28) + "\x80"},
		{Super{Gen: math.MaxUint32, Root: 239, Used: setOf(pages())}, "\xff\xff\xff\xff\xef\xfc" + strings.Repeat("\xff", 29)},
	} {
		if !Right(c.s) {
			t.Errorf("Right(%v) = false", c.s)
		}
		if data := lay(t, c.s); data != c.data {
			t.Errorf("Lay(%v) = %q, want %q", c.s, data, c.data)
		}
		reads(t, c.data, c.s)
	}
}

// 7.1: each generation with each root and each set: which of them are right, their data, and they read again.
func TestAllKinds(t *testing.T) {
	for _, m := range kinds() {
		for _, gen := range gens {
			for _, root := range roots {
				s := of(gen, root, m)
				if !mayBe(gen, root, m) {
					refusesLay(t, s)
					continue
				}
				if !Right(s) {
					t.Fatalf("Right(%v) = false", s)
				}
				data := lay(t, s)
				if want := words(gen, root, m); data != want {
					t.Fatalf("Lay(%v) = %q, want %q", s, data, want)
				}
				reads(t, data, s)
			}
		}
	}
}

// 7.1: each root, alone in the set, in it among all others, and the only one that isn't in it.
func TestEachRoot(t *testing.T) {
	for root := 2; root < 240; root++ {
		alone := those(func(n int) bool { return n == root })
		missing := those(func(n int) bool { return n >= 2 && n != root })
		for _, m := range []members{alone, pages()} {
			s := of(5, root, m)
			if !Right(s) {
				t.Errorf("Right(%v) = false", s)
			}
			if data := lay(t, s); data != words(5, root, m) {
				t.Errorf("Lay(%v) = %q", s, data)
			}
			reads(t, words(5, root, m), s)
		}
		for _, m := range []members{missing, {}} {
			refusesLay(t, of(5, root, m))
			refusesRead(t, words(5, root, m))
		}
	}
}

// 7.1: 0 and 1 are never in the set, not even as what would be the root.
func TestOwnSectorsInTheSet(t *testing.T) {
	for _, m := range kinds() {
		for _, own := range [][]int{{0}, {1}, {0, 1}} {
			with := m
			for _, n := range own {
				with[n] = true
			}
			for _, root := range []int{0, 1, 2, 239} {
				refusesLay(t, of(1, root, with))
				refusesRead(t, words(1, root, with))
			}
		}
	}
}

// 7.1: any other length, shorter or longer, whatever stands there.
func TestReadOfOtherLengths(t *testing.T) {
	right := words(1, 2, pages())
	reads(t, right, of(1, 2, pages()))
	for size := range 35 {
		refusesRead(t, right[:size])
		refusesRead(t, right[35-size:])
		refusesRead(t, strings.Repeat("\x00", size))
	}
	for _, size := range []int{36, 37, 39, 40, 70, 120, 121, 128, 291, 1<<16 + 35} {
		refusesRead(t, right+strings.Repeat("\x00", size-35))
		refusesRead(t, strings.Repeat("\x00", size-35)+right)
		refusesRead(t, strings.Repeat(right, size/35+1)[:size])
	}
}

// 7.1: a generation 0, and roots that may not be, in data of 35 bytes.
func TestReadOfNoneRight(t *testing.T) {
	for _, m := range kinds() {
		refusesRead(t, words(0, 0, m))
		refusesRead(t, words(0, 2, m))
		refusesRead(t, words(1, 1, m))
		for root := 240; root < 256; root++ {
			refusesRead(t, words(1, root, m))
		}
	}
	refusesRead(t, strings.Repeat("\x00", 35))
	refusesRead(t, strings.Repeat("\xff", 35))
}

// 7.1: data of any bytes are read as the words say, and laid again as they were.
func TestReadOfAnyBytes(t *testing.T) {
	right := 0
	for seed := range 5000 {
		next := numbers(uint64(seed))
		data := make([]byte, 35)
		for i := range data {
			data[i] = byte(next() >> 7)
		}
		if seed%4 != 0 { // so that more of them are right
			data[5] &^= 3
		}
		want, ok := read(string(data))
		if !ok {
			refusesRead(t, string(data))
			continue
		}
		right++
		reads(t, string(data), want)
		if again := lay(t, want); again != string(data) {
			t.Fatalf("Lay(%v) = %q, want %q", want, again, data)
		}
	}
	if right < 1000 {
		t.Errorf("only %d were right", right)
	}
}

// 7.1: each bit of the data counts.
func TestEachBitOfTheData(t *testing.T) {
	for _, m := range []members{pages(), mixed(4, 128), those(func(n int) bool { return n == 9 || n == 8 })} {
		m[9] = true
		right := words(0x00010001, 9, m)
		for bit := range 8 * 35 {
			data := []byte(right)
			data[bit/8] ^= 1 << (bit % 8)
			if want, ok := read(string(data)); ok {
				reads(t, string(data), want)
			} else {
				refusesRead(t, string(data))
			}
		}
	}
}

// 7.2: the chapter's example, on disks of many sizes.
func TestBestOfANewDisk(t *testing.T) {
	for _, n := range []int{3, 4, 5, 100, 239, 240} {
		refusesBest(t, fresh(t, n), api.ErrNone)
	}
}

// 7.2: a right superblock alone, in each sector, whichever its generation's is.
func TestBestOfOne(t *testing.T) {
	for _, n := range []int{3, 4, 240} {
		for at := range 2 {
			for _, gen := range gens[1:] {
				for _, s := range []Super{of(gen, 0, members{}), of(gen, 239, pages()), of(gen, 2, mixed(5, 255))} {
					if !Right(s) {
						continue
					}
					d := fresh(t, n)
					put(t, d, at, s)
					counts(t, d, s)
				}
			}
		}
	}
}

// 7.2: of two the one of the greater generation, in whichever sector it is, whatever else is unlike.
func TestBestOfTwo(t *testing.T) {
	for _, one := range gens[1:] {
		for _, other := range gens[1:] {
			for _, swapped := range []bool{false, true} {
				first, second := of(one, 2, pages()), of(other, 0, members{})
				if swapped {
					first.Root, first.Used, second.Root, second.Used = second.Root, second.Used, first.Root, first.Used
				}
				d := fresh(t, 3)
				put(t, d, 0, first)
				put(t, d, 1, second)
				if other > one {
					counts(t, d, second)
				} else {
					counts(t, d, first)
				}
			}
		}
	}
}

// 7.2: no other sector than 0 and 1 counts.
func TestBestLooksNowhereElse(t *testing.T) {
	d := fresh(t, 240)
	for at := 2; at < 240; at++ {
		put(t, d, at, of(uint32(at), 0, members{}))
	}
	refusesBest(t, d, api.ErrNone)
	put(t, d, 1, of(1, 3, pages()))
	counts(t, d, of(1, 3, pages()))
}

// 7.2: with any byte of one spoilt the other one counts; with both spoilt none does.
func TestBestOfSpoilt(t *testing.T) {
	older, newer := of(255, 2, pages()), of(256, 0, mixed(6, 128))
	for _, both := range [][2]Super{{older, newer}, {newer, older}, {older, of(255, 0, members{})}} {
		for at := range api.Sector {
			d := fresh(t, 3)
			spoilt := [2]api.Page{framed(t, 1, lay(t, both[0])), framed(t, 1, lay(t, both[1]))}
			for i := range 2 {
				spoilt[i][at] ^= byte(at + 1)
				put(t, d, 1-i, both[1-i])
				write(t, d, i, spoilt[i])
				counts(t, d, both[1-i])
			}
			write(t, d, 0, spoilt[0])
			refusesBest(t, d, api.ErrNone)
		}
	}
}

// 7.2: a frame of another kind is none, nor is one of the kind 1 with other data.
func TestBestOfOtherFrames(t *testing.T) {
	newer := words(9, 2, pages())
	others := []api.Page{
		framed(t, 1, ""), framed(t, 1, newer[:34]), framed(t, 1, newer+"\x00"), framed(t, 1, newer+newer), framed(t, 1, strings.Repeat("\xff", 120)),
		framed(t, 1, words(0, 2, pages())), framed(t, 1, words(9, 1, pages())), framed(t, 1, words(9, 240, pages())),
		framed(t, 1, words(9, 255, pages())), framed(t, 1, words(9, 2, members{})), framed(t, 1, words(9, 0, members{0: true})),
		framed(t, 1, words(9, 0, members{1: true})), framed(t, 1, words(math.MaxUint32, 0, members{1: true, 2: true})),
		{}, full(1), full(255),
	}
	for kind := 2; kind < 256; kind++ {
		others = append(others, framed(t, kind, newer))
	}
	right := of(3, 7, pages())
	for i, other := range others {
		for at := range 2 {
			d := fresh(t, 3)
			write(t, d, at, other)
			refusesBest(t, d, api.ErrNone)
			put(t, d, 1-at, right)
			counts(t, d, right)
			write(t, d, 1-at, others[(i+1)%len(others)])
			refusesBest(t, d, api.ErrNone)
		}
	}
}

// 7.2: Best reads what was written last, firm or not, and changes nothing.
func TestBestChangesNothing(t *testing.T) {
	d := fresh(t, 4)
	put(t, d, 0, of(2, 0, members{}))
	flush(t, d)
	put(t, d, 1, of(3, 2, pages()))
	write(t, d, 3, full(7))
	want := content(t, d)
	for range 3 {
		counts(t, d, of(3, 2, pages()))
		remains(t, d, want, 2)
	}
	crash(d, 0, 0)
	counts(t, d, of(2, 0, members{}))
}

// 7.2: on a disk of 1 sector or 2 no superblock counts, and none is switched to: nothing is written, nor made firm.
func TestSmallDisks(t *testing.T) {
	for n := 1; n <= 2; n++ {
		d := fresh(t, n)
		refusesBest(t, d, api.ErrArg)
		for at := range n {
			put(t, d, at, of(uint32(at+4), 0, members{}))
		}
		refusesBest(t, d, api.ErrArg)
		want := content(t, d)
		for _, gen := range gens {
			wants(t, Switch(d, of(gen, 0, members{})), api.ErrArg, "Switch", n, gen)
			wants(t, Switch(d, of(gen, 2, pages())), api.ErrArg, "Switch", n, gen)
			remains(t, d, want, n)
		}
		d.Crash(0, 0)
		refusesBest(t, d, api.ErrDown)
		wants(t, Switch(d, of(4, 0, members{})), api.ErrArg, "Switch", n)
		d.Up()
		remains(t, d, make([]api.Page, n), 0)
	}
}

// 7.2: a nil disk.
func TestNilDisk(t *testing.T) {
	refusesBest(t, nil, api.ErrArg)
	for _, gen := range gens {
		wants(t, Switch(nil, of(gen, 0, members{})), api.ErrArg, "Switch", gen)
		wants(t, Switch(nil, of(gen, 1, pages())), api.ErrArg, "Switch", gen)
	}
}

// 7.2: a disk that is down: Best tells that ahead of all, Switch behind a superblock that isn't right. Nothing is changed.
func TestDown(t *testing.T) {
	for _, n := range []int{3, 240} {
		d := fresh(t, n)
		d.Crash(0, 0)
		refusesBest(t, d, api.ErrDown)
		d.Up()
		switches(t, d, of(1, 2, pages()))
		want := content(t, d)
		d.Crash(math.MaxUint32, 5)
		refusesBest(t, d, api.ErrDown)
		for _, gen := range gens[1:] {
			wants(t, Switch(d, of(gen, 0, members{})), api.ErrDown, "Switch", gen)
			wants(t, Switch(d, of(gen, 239, pages())), api.ErrDown, "Switch", gen)
		}
		for _, s := range []Super{{}, of(0, 0, pages()), of(2, 1, pages()), of(2, 240, pages()), of(2, -1, pages()), of(2, 2, members{}), of(2, 0, members{1: true})} {
			wants(t, Switch(d, s), api.ErrArg, "Switch", s)
		}
		d.Up()
		remains(t, d, want, 0)
		counts(t, d, of(1, 2, pages()))
	}
}

// 7.2: one that isn't right isn't switched to: nothing is written, nor made firm.
func TestSwitchToNoneRight(t *testing.T) {
	d := fresh(t, 3)
	switches(t, d, of(6, 2, pages()))
	want := content(t, d)
	write(t, d, 2, full(9))
	waits := content(t, d)
	for _, m := range kinds() {
		for _, gen := range []uint32{0, 1, 7, math.MaxUint32} {
			for _, root := range roots {
				if !mayBe(gen, root, m) {
					wants(t, Switch(d, of(gen, root, m)), api.ErrArg, "Switch", gen, root)
				}
			}
		}
	}
	remains(t, d, waits, 1)
	crash(d, 0, 0)
	remains(t, d, want, 0)
	counts(t, d, of(6, 2, pages()))
}

// 7.2: Switch writes the frame in its generation's sector, leaves all others, and all is firm then.
func TestSwitchWritesOneSector(t *testing.T) {
	for _, n := range []int{3, 4, 240} {
		for _, gen := range gens[1:] {
			for _, m := range []members{{}, pages(), mixed(7, 100)} {
				d := fresh(t, n)
				for at := range n {
					write(t, d, at, full(byte(at+1)))
				}
				want := content(t, d)
				s := of(gen, 0, m)
				switches(t, d, s)
				want[gen%2] = framed(t, 1, words(gen, 0, m))
				remains(t, d, want, 0)
				counts(t, d, s)
				crash(d, 0, 77)
				remains(t, d, want, 0)
			}
		}
	}
}

// 7.2: a superblock may be switched to whatever counts: one of a lesser generation lies there, and doesn't count.
func TestSwitchToALesserOne(t *testing.T) {
	d := fresh(t, 3)
	switches(t, d, of(9, 2, pages()))
	switches(t, d, of(4, 3, pages()))
	counts(t, d, of(9, 2, pages()))
	switches(t, d, of(7, 4, pages()))
	counts(t, d, of(7, 4, pages()))
	switches(t, d, of(7, 0, members{}))
	counts(t, d, of(7, 0, members{}))
}

// 7.2: one generation behind the other: each counts, and the one ahead of it is still there.
func TestSwitchManyTimes(t *testing.T) {
	for _, first := range []uint32{1, 250, 1<<16 - 5, 1<<24 - 5, 1<<31 - 5, math.MaxUint32 - 10} {
		d := fresh(t, 3)
		was, next := Super{}, numbers(uint64(first))
		for i := range uint32(11) {
			m := mixed(uint64(first+i), next()%257)
			s := of(first+i, 0, m)
			if root := 2 + next()%238; m[root] {
				s.Root = root
			}
			switches(t, d, s)
			counts(t, d, s)
			if i > 0 {
				write(t, d, int(s.Gen%2), api.Page{})
				counts(t, d, was)
				put(t, d, int(s.Gen%2), s)
			}
			was = s
		}
	}
}

// What is handed in isn't changed, and what is handed out is new.
func TestNothingIsShared(t *testing.T) {
	d := fresh(t, 3)
	s := of(3, 2, pages())
	switches(t, d, s)
	data := lay(t, s)
	got, err := Best(d)
	if err != nil || s != of(3, 2, pages()) {
		t.Fatalf("%v, %v", got, err)
	}
	clear(got.Used[:])
	clear(s.Used[:])
	counts(t, d, of(3, 2, pages()))
	reads(t, data, of(3, 2, pages()))
}

// deeds are what a switch does to a disk, one behind the other: no call can look between
// them, so the tests of the power do them one by one.
func deeds(t *testing.T, d *disk.Disk, s Super) []func() {
	return []func(){
		func() { flush(t, d) },
		func() { put(t, d, int(s.Gen%2), s) },
		func() { flush(t, d) },
	}
}

// 7.2, 7.3: Switch does these deeds in this order. As no call can look between them, this is taken from its text.
func TestDeedsOfSwitch(t *testing.T) {
	file, err := parser.ParseFile(token.NewFileSet(), "super.go", nil, 0)
	if err != nil {
		t.Fatal(err)
	}
	var deeds []string
	for _, decl := range file.Decls {
		f, ok := decl.(*ast.FuncDecl)
		if !ok || f.Name.Name != "Switch" {
			continue
		}
		ast.Inspect(f, func(n ast.Node) bool {
			if s, ok := n.(*ast.SelectorExpr); ok && slices.Contains([]string{"Flush", "Store", "Write", "Crash", "Up"}, s.Sel.Name) {
				deeds = append(deeds, s.Sel.Name)
			}
			return true
		})
	}
	if !slices.Equal(deeds, []string{"Flush", "Store", "Flush"}) {
		t.Errorf("Switch does %q", deeds)
	}
}

// wait lets that many writes to pages wait, and answers what the sectors are then.
func wait(t *testing.T, d *disk.Disk, many int) []api.Page {
	t.Helper()
	for i := range many {
		write(t, d, 2+i%(d.Size()-2), full(byte(i+1)))
	}
	return content(t, d)
}

// upTo answers a disk on which a superblock counts (none of the generation 0), those ahead of it were switched to, too.
func upTo(t *testing.T, gen uint32) *disk.Disk {
	t.Helper()
	d := fresh(t, 5)
	for g := max(gen, 2) - 2; g < gen; g++ {
		switches(t, d, nth(g+1))
	}
	return d
}

// nth answers a superblock of a generation: others of them have other sets.
func nth(gen uint32) Super { return of(gen, 0, mixed(uint64(gen), 128)) }

// stands fails the test, if another one than that of a generation counts (of 0: any).
func stands(t *testing.T, d *disk.Disk, gen uint32) {
	t.Helper()
	if gen == 0 {
		refusesBest(t, d, api.ErrNone)
	} else {
		counts(t, d, nth(gen))
	}
}

// firsts are generations from which the next one is switched to.
var firsts = []uint32{0, 1, 2, 3, 254, 255, 256, 1<<16 - 1, 1<<24 - 1, 1<<31 - 1, math.MaxUint32 - 2, math.MaxUint32 - 1}

// 7.3: the power goes ahead of the superblock's write: the one that did counts; behind the first flush what waited is firm.
func TestPowerGoesAheadOfTheWrite(t *testing.T) {
	for _, gen := range firsts {
		for _, many := range []int{0, 1, 2, 3, 31, 33, 70} {
			for _, mask := range []uint32{0, 1, 2, 0x55555555, math.MaxUint32} {
				for _, torn := range []int{-1, 0, 1, 64, 127, 128} {
					d := upTo(t, gen)
					wait(t, d, many)
					crash(d, mask, torn)
					stands(t, d, gen)
					want := wait(t, d, many)
					deeds(t, d, nth(gen+1))[0]()
					crash(d, mask, torn)
					remains(t, d, want, 0)
					stands(t, d, gen)
				}
			}
		}
	}
}

// 7.3: the superblock's write is torn at each byte: the one that did counts, or the new one, and what waited ahead of it is firm.
func TestPowerGoesInTheWrite(t *testing.T) {
	for _, gen := range firsts {
		for _, many := range []int{0, 1, 3, 70} {
			for torn := range api.Sector {
				d := upTo(t, gen)
				want := wait(t, d, many)
				s := nth(gen + 1)
				do := deeds(t, d, s)
				do[0]()
				do[1]()
				crash(d, 0, torn)
				whole := framed(t, 1, words(s.Gen, s.Root, membersOf(string(s.Used[:]))))
				left := want[s.Gen%2]
				copy(left[:], whole[:torn])
				want[s.Gen%2] = left
				remains(t, d, want, 0)
				if left == whole {
					stands(t, d, gen+1)
				} else {
					stands(t, d, gen)
				}
			}
		}
	}
}

// 7.3: the superblock's write is kept: the new one counts, as behind the second flush, and what waited ahead of it is firm.
func TestPowerGoesBehindTheWrite(t *testing.T) {
	for _, gen := range firsts {
		for _, many := range []int{0, 1, 3, 70} {
			for _, torn := range []int{-1, 0, 1, 40, 127, 128} {
				for _, mask := range []uint32{1, 3, 0x55555555, math.MaxUint32} {
					d := upTo(t, gen)
					want := wait(t, d, many)
					s := nth(gen + 1)
					do := deeds(t, d, s)
					do[0]()
					do[1]()
					crash(d, mask, torn)
					want[s.Gen%2] = framed(t, 1, words(s.Gen, s.Root, membersOf(string(s.Used[:]))))
					remains(t, d, want, 0)
					stands(t, d, gen+1)
				}
			}
		}
	}
}

// 7.3: behind a switch no crash takes anything, and the next switch goes on from there.
func TestPowerGoesBehindTheSwitch(t *testing.T) {
	for _, gen := range firsts {
		for _, mask := range []uint32{0, 1, math.MaxUint32} {
			for _, torn := range []int{-1, 0, 1, 40, 127} {
				d := upTo(t, gen)
				want := wait(t, d, 5)
				s := nth(gen + 1)
				switches(t, d, s)
				want[s.Gen%2] = framed(t, 1, words(s.Gen, s.Root, membersOf(string(s.Used[:]))))
				crash(d, mask, torn)
				remains(t, d, want, 0)
				stands(t, d, gen+1)
			}
		}
	}
}

// 7.3: the power goes again and again, at any place of a switch: each time the last one or the new one counts, whatever lies in its sector.
func TestPowerGoesManyTimes(t *testing.T) {
	for seed := range 60 {
		next := numbers(uint64(seed))
		d, gen := fresh(t, 5), uint32(0)
		for range 40 {
			many, done := next()%40, next()%4
			wait(t, d, many)
			for _, do := range deeds(t, d, nth(gen+1))[:done] {
				do()
			}
			mask := uint32(next())
			crash(d, mask, next()%200)
			best, err := Best(d)
			isNew := err == nil && best == nth(gen+1)
			switch {
			case isNew && done >= 2:
				gen++
			case isNew, done == 3, done == 2 && mask%2 == 1:
				t.Fatalf("behind %d deeds, %d: %v, %v", done, gen, best, err)
			default:
				stands(t, d, gen)
			}
		}
	}
}
