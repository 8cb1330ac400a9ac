package frame

import (
	"math"
	"strings"
	"testing"

	"dynamo/api"
	"dynamo/disk"
	"dynamo/tag"
)

// noKinds are numbers that are no kinds; cut to eight bits, most of them would be.
var noKinds = []int{0, -1, 256, -2, -255, -256, -257, 257, 258, 511, 512, 1000, 1<<16 + 1, 1 << 31, 1<<32 + 1, 1<<62 + 3, math.MaxInt, math.MaxInt - 1, math.MinInt, math.MinInt + 1}

// noSizes are more bytes than a frame has; cut to eight bits, some of them would be as many as it may have.
var noSizes = []int{121, 122, 123, 127, 128, 129, 255, 256, 257, 300, 376, 377, 1000, 1<<16 + 5}

// noSectors are numbers of no sector of a disk that has 3; cut to fewer bits, some of them would be.
var noSectors = []int{-1, 3, 4, -3, 128, 240, 256, 257, 1 << 16, 1 << 32, 1<<32 + 1, math.MaxInt, math.MinInt, math.MinInt + 1}

// numbers answers a function that makes numbers from 0 on, always the same ones of one seed.
func numbers(seed uint64) func() int {
	return func() int {
		seed = seed*6364136223846793005 + 1442695040888963407
		return int(seed >> 33)
	}
}

// mixed answers a text of that many bytes, another one of each number.
func mixed(size, n int) string {
	next := numbers(uint64(n))
	text := make([]byte, size)
	for i := range text {
		text[i] = byte(next() >> 7)
	}
	return string(text)
}

// samples answers data of that many bytes: zero bytes, 255s, ascii, such as begin and end with zero bytes, mixed ones.
func samples(size int) []string {
	l := []string{strings.Repeat("\x00", size), strings.Repeat("\xff", size), strings.Repeat("a", size), mixed(size, 1), mixed(size, 2)}
	if size >= 2 {
		l = append(l, "\x00"+mixed(size-1, 3), mixed(size-1, 4)+"\x00", mixed(size-2, 5)+"\x00\x00", "\x00"+mixed(size-2, 6)+"\x00")
	}
	return l
}

// bitwise reckons the sum of bytes as chapter 2 says it, a bit at a time.
func bitwise(text []byte) uint32 {
	r := uint32(math.MaxUint32)
	for _, b := range text {
		r ^= uint32(b)
		for range 8 {
			odd := r%2 == 1
			r /= 2
			if odd {
				r ^= 0xedb88320
			}
		}
	}
	return r ^ math.MaxUint32
}

// summed answers a sector of those bytes from 4 on, whatever they are, with the right sum ahead of them.
func summed(rest []byte) (p api.Page) {
	n := bitwise(rest)
	for i := range p {
		if i < 4 {
			p[i] = byte(n >> (24 - 8*i))
		} else {
			p[i] = rest[i-4]
		}
	}
	return p
}

// words answers a frame as the chapter says it: its bytes one behind the other, and zero bytes up to a sector.
func words(kind int, data string) api.Page {
	rest := append([]byte{byte(kind), byte(len(data))}, data...)
	for len(rest) < 124 {
		rest = append(rest, 0)
	}
	return summed(rest)
}

// wants fails the test, if an error has another number than that.
func wants(t *testing.T, err error, want api.Errno, call string, args ...any) {
	t.Helper()
	if tag.Num(err) != int(want) || !tag.Same(err, want) {
		t.Errorf("%s%v: error %v, want %v", call, args, err, want)
	}
}

// refusesLay fails the test, if Lay doesn't answer that error, and nothing beside it.
func refusesLay(t *testing.T, kind int, data string, want api.Errno) {
	t.Helper()
	p, err := Lay(kind, data)
	wants(t, err, want, "Lay", kind, len(data))
	if p != (api.Page{}) {
		t.Errorf("Lay(%d, %q) = %v beside an error", kind, data, p)
	}
}

// refusesRead fails the test, if Read doesn't answer that error, and nothing beside it.
func refusesRead(t *testing.T, p api.Page, want api.Errno) {
	t.Helper()
	kind, data, err := Read(p)
	wants(t, err, want, "Read", p)
	if kind != 0 || data != "" {
		t.Errorf("Read(%v) = %d, %q beside an error", p, kind, data)
	}
}

// refusesLoad fails the test, if Load doesn't answer that error, and nothing beside it.
func refusesLoad(t *testing.T, d *disk.Disk, i, kind int, want api.Errno) {
	t.Helper()
	data, err := Load(d, i, kind)
	wants(t, err, want, "Load", i, kind)
	if data != "" {
		t.Errorf("Load(%d, %d) = %q beside an error", i, kind, data)
	}
}

// lay answers a frame that may be.
func lay(t *testing.T, kind int, data string) api.Page {
	t.Helper()
	p, err := Lay(kind, data)
	if err != nil {
		t.Fatalf("Lay(%d, %q): error %v", kind, data, err)
	}
	return p
}

// reads fails the test, if a sector isn't read as that.
func reads(t *testing.T, p api.Page, kind int, data string) {
	t.Helper()
	gotKind, gotData, err := Read(p)
	if err != nil || gotKind != kind || gotData != data {
		t.Errorf("Read(%v) = %d, %q, %v, want %d, %q", p, gotKind, gotData, err, kind, data)
	}
}

// loads fails the test, if that isn't loaded from a sector.
func loads(t *testing.T, d *disk.Disk, i, kind int, data string) {
	t.Helper()
	if got, err := Load(d, i, kind); err != nil || got != data {
		t.Errorf("Load(%d, %d) = %q, %v, want %q", i, kind, got, err, data)
	}
}

// store stores what may be stored.
func store(t *testing.T, d *disk.Disk, i, kind int, data string) {
	t.Helper()
	if err := Store(d, i, kind, data); err != nil {
		t.Fatalf("Store(%d, %d, %q): error %v", i, kind, data, err)
	}
}

// fresh answers a new disk.
func fresh(t *testing.T, n int) *disk.Disk {
	t.Helper()
	d, err := disk.New(n)
	if err != nil {
		t.Fatalf("New(%d): error %v", n, err)
	}
	return d
}

// content answers all sectors of a disk that is up.
func content(t *testing.T, d *disk.Disk) []api.Page {
	t.Helper()
	l := make([]api.Page, d.Size())
	for i := range l {
		p, err := d.Read(i)
		if err != nil {
			t.Fatalf("sector %d: error %v", i, err)
		}
		l[i] = p
	}
	return l
}

// remains fails the test, if a disk that is up has other sectors than those, or another number of writes that aren't firm.
func remains(t *testing.T, d *disk.Disk, want []api.Page, soft int) {
	t.Helper()
	for i, p := range content(t, d) {
		if p != want[i] {
			t.Errorf("sector %d = %v, want %v", i, p, want[i])
		}
	}
	if d.Soft() != soft {
		t.Errorf("Soft() = %d, want %d", d.Soft(), soft)
	}
}

// 5.1: the chapter's example, and other sectors of one byte all over.
func TestSectorsOfOneByte(t *testing.T) {
	refusesRead(t, api.Page{}, api.ErrSum)
	for b := range 256 {
		var p api.Page
		for i := range p {
			p[i] = byte(b)
		}
		refusesRead(t, p, api.ErrSum)
	}
}

// 5.1: frames written out, their sums from elsewhere.
func TestFramesWrittenOut(t *testing.T) {
	for _, c := range []struct {
		kind       int
		data, head string
	}{
		{1, "", "\x61\xd1\xf4\x99\x01\x00"},
		{2, "dynamo", "\x49\xd0\xb1\x2e\x02\x06dynamo"},
		{1, "\x00", "\xd6\xf9\xfb\x1a\x01\x01"},
		{255, strings.Repeat("\xff", 120), "\xc8\xb0\x49\x74\xff\x78" + strings.Repeat("\xff", 120)},
	} {
		var want api.Page
		for i := range len(c.head) {
			want[i] = c.head[i]
		}
		if p := lay(t, c.kind, c.data); p != want {
			t.Errorf("Lay(%d, %q) = %v, want %v", c.kind, c.data, p, want)
		}
		reads(t, want, c.kind, c.data)
	}
}

// 5.1, 5.3: each kind, with data of few bytes and of many, is laid as the words say, and read as it was.
func TestEachKind(t *testing.T) {
	for kind := 1; kind <= 255; kind++ {
		for _, size := range []int{0, 1, 2, 7, 60, 119, 120} {
			for _, data := range samples(size) {
				p := lay(t, kind, data)
				if want := words(kind, data); p != want {
					t.Fatalf("Lay(%d, %q) = %v, want %v", kind, data, p, want)
				}
				reads(t, p, kind, data)
			}
		}
	}
}

// 5.1, 5.3: data of each size.
func TestEachSize(t *testing.T) {
	for size := range 121 {
		for _, kind := range []int{1, 2, 127, 128, 255} {
			for _, data := range samples(size) {
				p := lay(t, kind, data)
				if want := words(kind, data); p != want {
					t.Fatalf("Lay(%d, %q) = %v, want %v", kind, data, p, want)
				}
				reads(t, p, kind, data)
			}
		}
	}
}

// 5.1, 5.3: data that differ by zero bytes at their end are laid unlike, and each is read as it was.
func TestZeroBytesAtTheEnd(t *testing.T) {
	met := map[api.Page]bool{}
	for size := range 121 {
		for _, data := range []string{strings.Repeat("\x00", size), "x" + strings.Repeat("\x00", max(size-1, 0))} {
			if len(data) != size {
				continue
			}
			p := lay(t, 3, data)
			if met[p] {
				t.Errorf("Lay(3, %q) was another's", data)
			}
			met[p] = true
			reads(t, p, 3, data)
		}
	}
}

// 5.1: any other kind is refused, ahead of too much data.
func TestLayOfNoKind(t *testing.T) {
	for _, kind := range noKinds {
		for _, data := range []string{"", "x", mixed(120, 1), mixed(121, 1), mixed(300, 1)} {
			refusesLay(t, kind, data, api.ErrArg)
		}
	}
}

// 5.1: more than 120 bytes are refused.
func TestLayOfTooMuch(t *testing.T) {
	for _, kind := range []int{1, 2, 255} {
		for _, size := range noSizes {
			for _, data := range samples(size) {
				refusesLay(t, kind, data, api.ErrSize)
			}
		}
	}
}

// 5.1, 5.3: a frame with one byte changed, whichever and to whatever, has another sum.
func TestEachByteChanged(t *testing.T) {
	for _, f := range []struct {
		kind int
		data string
	}{{1, ""}, {255, ""}, {1, "\x00"}, {2, "dynamo"}, {7, mixed(119, 1)}, {255, mixed(120, 2)}, {9, strings.Repeat("\x00", 120)}} {
		p := lay(t, f.kind, f.data)
		for at := range p {
			for by := 1; by < 256; by++ {
				changed := p
				changed[at] ^= byte(by)
				refusesRead(t, changed, api.ErrSum)
			}
		}
		reads(t, p, f.kind, f.data)
	}
}

// 5.1: each bit of the sum counts, and its bytes' order.
func TestOtherSums(t *testing.T) {
	p := lay(t, 2, "dynamo")
	for bit := range 32 {
		changed := p
		changed[bit/8] ^= 1 << (bit % 8)
		refusesRead(t, changed, api.ErrSum)
	}
	turned := p
	turned[0], turned[1], turned[2], turned[3] = p[3], p[2], p[1], p[0]
	refusesRead(t, turned, api.ErrSum)
}

// 5.1: another sum is told ahead of another form.
func TestSumAheadOfForm(t *testing.T) {
	for at, b := range map[int]byte{4: 0, 5: 121, 127: 1} {
		rest := []byte(string(make([]byte, 124)))
		rest[0] = 1
		rest[at-4] = b
		p := summed(rest)
		refusesRead(t, p, api.ErrForm)
		p[0] ^= 1
		refusesRead(t, p, api.ErrSum)
	}
}

// 5.1: a kind of 0 with a right sum isn't what Lay makes.
func TestReadOfKindZero(t *testing.T) {
	for size := range 256 {
		for _, fill := range []byte{0, 1, 255} {
			rest := []byte(strings.Repeat(string([]byte{fill}), 124))
			rest[0], rest[1] = 0, byte(size)
			for i := 2 + size; i < len(rest); i++ {
				rest[i] = 0
			}
			refusesRead(t, summed(rest), api.ErrForm)
		}
	}
}

// 5.1: nor is a length over 120, whatever stands behind it.
func TestReadOfTooLong(t *testing.T) {
	for size := 121; size < 256; size++ {
		for _, kind := range []byte{0, 1, 2, 128, 255} {
			for _, fill := range []byte{0, 1, 255} {
				rest := []byte(strings.Repeat(string([]byte{fill}), 124))
				rest[0], rest[1] = kind, byte(size)
				refusesRead(t, summed(rest), api.ErrForm)
				rest[122], rest[123] = 0, 0
				refusesRead(t, summed(rest), api.ErrForm)
			}
		}
	}
}

// 5.1: nor is a byte that isn't 0 behind the data, wherever it is.
func TestReadOfMoreBehindTheData(t *testing.T) {
	for _, size := range []int{0, 1, 2, 60, 118, 119, 120} {
		p := lay(t, 2, mixed(size, 8))
		for at := 6 + size; at < api.Sector; at++ {
			for _, b := range []byte{1, 2, 128, 255} {
				rest := append([]byte{}, p[4:]...)
				rest[at-4] = b
				refusesRead(t, summed(rest), api.ErrForm)
			}
		}
	}
}

// 5.1: sectors of any bytes: Read answers what the words say of them, with their own sum and with a right one.
func TestReadOfAnyBytes(t *testing.T) {
	for seed := range 3000 {
		rest := []byte(mixed(124, seed))
		if seed%2 == 0 { // so that more of them are frames, or nearly
			rest[0], rest[1] = byte(seed/2%4), byte(seed/8%130)
			clear(rest[min(2+int(rest[1])+seed/2%3, 124):])
		}
		p := summed(rest)
		if size := int(rest[1]); rest[0] != 0 && size <= 120 && words(int(rest[0]), string(rest[2:2+size])) == p {
			reads(t, p, int(rest[0]), string(rest[2:2+size]))
		} else {
			refusesRead(t, p, api.ErrForm)
		}
		p[seed%4] ^= byte(seed%255 + 1)
		refusesRead(t, p, api.ErrSum)
	}
}

// What is handed in isn't changed, and what is handed out is new.
func TestPagesAreNotShared(t *testing.T) {
	p := lay(t, 2, "dynamo")
	again := lay(t, 2, "dynamo")
	_, data, err := Read(p)
	if err != nil || p != again {
		t.Fatalf("Read changed its sector to %v, or answered %v", p, err)
	}
	clear(p[:])
	if data != "dynamo" || again != words(2, "dynamo") {
		t.Errorf("%q, %v", data, again)
	}
}

// 5.2, 5.3: what is stored lies there as it is laid, is loaded as it was, and changes no other sector.
func TestStoreAndLoad(t *testing.T) {
	d := fresh(t, 240)
	want := content(t, d)
	writes := 0
	for _, at := range []int{0, 239, 1, 120, 0} {
		for _, kind := range []int{1, 2, 255} {
			for _, size := range []int{0, 1, 119, 120} {
				data := mixed(size, at+kind)
				store(t, d, at, kind, data)
				writes++
				want[at] = words(kind, data)
				remains(t, d, want, writes)
				loads(t, d, at, kind, data)
				loads(t, d, at, kind, data)
				remains(t, d, want, writes)
			}
		}
	}
}

// 5.2: a store is a write: it flushes nothing, and isn't firm till a flush.
func TestStoreIsNotFirm(t *testing.T) {
	d := fresh(t, 3)
	store(t, d, 1, 2, "old")
	if err := d.Flush(); err != nil {
		t.Fatal(err)
	}
	store(t, d, 1, 2, "new")
	store(t, d, 2, 2, "more")
	loads(t, d, 1, 2, "new")
	d.Crash(0, 0)
	d.Up()
	loads(t, d, 1, 2, "old")
	refusesLoad(t, d, 2, 2, api.ErrSum)
}

// 5.2, 5.3: a frame torn over another one is loaded as the one or the other, or has another sum.
func TestTornStore(t *testing.T) {
	for torn := range api.Sector {
		d := fresh(t, 3)
		store(t, d, 1, 2, mixed(120, 1))
		if err := d.Flush(); err != nil {
			t.Fatal(err)
		}
		store(t, d, 1, 2, mixed(100, 2))
		d.Crash(0, torn)
		d.Up()
		if torn == 0 {
			loads(t, d, 1, 2, mixed(120, 1))
		} else if torn < 126 {
			refusesLoad(t, d, 1, 2, api.ErrSum)
		} else {
			loads(t, d, 1, 2, mixed(100, 2))
		}
	}
}

// 5.2: a sector that isn't a frame is refused as Read refuses it, whatever kind is asked for.
func TestLoadOfNoFrame(t *testing.T) {
	d := fresh(t, 3)
	long := []byte(strings.Repeat("\x01", 124))
	long[1] = 255
	more := []byte(string(make([]byte, 124)))
	more[0], more[123] = 2, 1
	for _, c := range []struct {
		page api.Page
		want api.Errno
	}{
		{api.Page{}, api.ErrSum}, {api.Page{1, 2, 3}, api.ErrSum}, {summed(make([]byte, 124)), api.ErrForm},
		{summed(long), api.ErrForm}, {summed(more), api.ErrForm},
	} {
		if err := d.Write(1, c.page); err != nil {
			t.Fatal(err)
		}
		for _, kind := range append([]int{1, 2, 255}, noKinds...) {
			refusesLoad(t, d, 1, kind, c.want)
		}
	}
}

// 5.2: another kind than the one stored, also one that is none, or is the same cut to a byte.
func TestLoadOfAnotherKind(t *testing.T) {
	d := fresh(t, 3)
	for kind := 1; kind <= 255; kind++ {
		data := mixed(kind%121, kind)
		store(t, d, 1, kind, data)
		for other := 1; other <= 255; other++ {
			if other != kind {
				refusesLoad(t, d, 1, other, api.ErrForm)
			}
		}
		for _, other := range append([]int{kind + 256, kind - 256, kind + 1<<32, -kind}, noKinds...) {
			refusesLoad(t, d, 1, other, api.ErrForm)
		}
		loads(t, d, 1, kind, data)
	}
}

// 5.2: sectors that aren't there: ErrArg of Load; of Store behind Lay's errors. Nothing is written.
func TestNoSector(t *testing.T) {
	d := fresh(t, 3)
	for at := range 3 {
		store(t, d, at, at+1, mixed(at*40, at))
	}
	want := content(t, d)
	for _, at := range noSectors {
		for _, kind := range append([]int{1, 2, 255}, noKinds...) {
			refusesLoad(t, d, at, kind, api.ErrArg)
		}
		wants(t, Store(d, at, 1, "x"), api.ErrArg, "Store", at)
		wants(t, Store(d, at, 1, mixed(121, 1)), api.ErrSize, "Store", at)
		wants(t, Store(d, at, 0, mixed(121, 1)), api.ErrArg, "Store", at)
		remains(t, d, want, 3)
	}
}

// 5.2: a Store of what can't be laid leaves what was there.
func TestStoreOfWhatCantBeLaid(t *testing.T) {
	d := fresh(t, 3)
	store(t, d, 1, 2, "kept")
	want := content(t, d)
	for at := range 3 {
		for _, kind := range noKinds {
			for _, size := range []int{0, 1, 120, 121, 300} {
				wants(t, Store(d, at, kind, mixed(size, 1)), api.ErrArg, "Store", at, kind, size)
			}
		}
		for _, kind := range []int{1, 2, 255} {
			for _, size := range noSizes {
				wants(t, Store(d, at, kind, mixed(size, 1)), api.ErrSize, "Store", at, kind, size)
			}
		}
		remains(t, d, want, 1)
	}
	loads(t, d, 1, 2, "kept")
}

// 5.2: on a disk that is down all is refused, Lay's errors ahead of that; nothing is changed.
func TestDown(t *testing.T) {
	d := fresh(t, 3)
	store(t, d, 1, 2, "kept")
	if err := d.Flush(); err != nil {
		t.Fatal(err)
	}
	want := content(t, d)
	d.Crash(0, 0)
	for _, at := range append([]int{0, 1, 2}, noSectors...) {
		for _, kind := range append([]int{1, 2, 255}, noKinds...) {
			refusesLoad(t, d, at, kind, api.ErrDown)
		}
		wants(t, Store(d, at, 1, "x"), api.ErrDown, "Store", at)
		wants(t, Store(d, at, 256, "x"), api.ErrArg, "Store", at)
		wants(t, Store(d, at, 256, mixed(121, 1)), api.ErrArg, "Store", at)
		wants(t, Store(d, at, 255, mixed(121, 1)), api.ErrSize, "Store", at)
	}
	d.Up()
	remains(t, d, want, 0)
	loads(t, d, 1, 2, "kept")
}

// 5.2: a nil disk.
func TestNilDisk(t *testing.T) {
	for _, at := range append([]int{0, 1, 2}, noSectors...) {
		for _, kind := range append([]int{1, 2, 255}, noKinds...) {
			refusesLoad(t, nil, at, kind, api.ErrArg)
		}
		wants(t, Store(nil, at, 1, "x"), api.ErrArg, "Store", at)
		wants(t, Store(nil, at, 0, mixed(121, 1)), api.ErrArg, "Store", at)
		wants(t, Store(nil, at, 1, mixed(121, 1)), api.ErrSize, "Store", at)
	}
}

// 5.3: kinds and data in many orders, over each other on one disk: each sector has the last of them.
func TestManyStores(t *testing.T) {
	for seed := range 20 {
		next := numbers(uint64(seed))
		d := fresh(t, 5)
		kinds, datas := make([]int, 5), make([]string, 5)
		for range 200 {
			at, kind, data := next()%5, next()%255+1, mixed(next()%121, next())
			store(t, d, at, kind, data)
			kinds[at], datas[at] = kind, data
			for i, k := range kinds {
				if k == 0 {
					refusesLoad(t, d, i, kind, api.ErrSum)
				} else {
					loads(t, d, i, k, datas[i])
				}
			}
		}
	}
}
