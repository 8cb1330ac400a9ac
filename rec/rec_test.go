package rec

import (
	"math"
	"strings"
	"testing"

	"dynamo/api"
	"dynamo/tag"
)

// piece is a part of a thing of a kind: where it stands, and the least and the greatest number that it may be.
type piece[T any] struct {
	name        string
	of          func(*T) *int
	least, most int
}

// sort is a kind of things: how the program lays and reads them, and what the chapter's words say of that.
type sort[T comparable] struct {
	name   string
	lay    func(T) (string, error)
	read   func(string) (T, error)
	pieces []piece[T]
	words  func(T) string // the value of one that can be recorded
	mayBe  func(string) bool
	things []T // ordinary ones
}

// robotWords reckons a robot's value byte by byte.
func robotWords(r Robot) string {
	return string([]byte{
		byte(r.Cell), byte(r.Charge), byte(r.Phase), byte(r.Task + 1),
		byte(r.Moved / 65536), byte(r.Moved / 256 % 256), byte(r.Moved % 256),
		byte(r.Gained / 65536), byte(r.Gained / 256 % 256), byte(r.Gained % 256),
		byte((r.Adjusted + 32768) / 256), byte((r.Adjusted + 32768) % 256),
	})
}

// taskWords reckons a task's value byte by byte.
func taskWords(t Task) string {
	return string([]byte{byte(t.From), byte(t.To), byte(t.State), 0, 0, 0, 0, 0, 0, 0, 0, 0})
}

// allWords reckons the value of all byte by byte.
func allWords(a All) string {
	return string([]byte{
		byte(a.Tick / 16777216), byte(a.Tick / 65536 % 256), byte(a.Tick / 256 % 256), byte(a.Tick % 256),
		a.Off[0], a.Off[1], a.Off[2], a.Off[3], a.Off[4], a.Off[5], a.Off[6], a.Off[7],
	})
}

// mayBeRobot tells whether bytes are what is laid of a robot: the three sums may be all that their bytes tell.
func mayBeRobot(s string) bool {
	return len(s) == 12 && s[0] <= 63 && s[1] <= 200 && s[2] <= 4 && s[3] <= 20
}

// mayBeTask tells whether bytes are what is laid of a task.
func mayBeTask(s string) bool {
	return len(s) == 12 && s[0] <= 63 && s[1] <= 63 && s[2] <= 3 && s[3:] == "\x00\x00\x00\x00\x00\x00\x00\x00\x00"
}

// mayBeAll tells whether bytes are what is laid of a state of all: a tick of 2^31 or more has its highest bit set.
func mayBeAll(s string) bool { return len(s) == 12 && s[0] < 128 }

// robots answers the kind of the robots.
func robots() sort[Robot] {
	return sort[Robot]{
		name: "Robot", lay: LayRobot, read: ReadRobot, words: robotWords, mayBe: mayBeRobot,
		pieces: []piece[Robot]{
			{"cell", func(r *Robot) *int { return &r.Cell }, 0, 63},
			{"charge", func(r *Robot) *int { return &r.Charge }, 0, 200},
			{"phase", func(r *Robot) *int { return &r.Phase }, 0, 4},
			{"task", func(r *Robot) *int { return &r.Task }, -1, 19},
			{"moved", func(r *Robot) *int { return &r.Moved }, 0, 16777215},
			{"gained", func(r *Robot) *int { return &r.Gained }, 0, 16777215},
			{"adjusted", func(r *Robot) *int { return &r.Adjusted }, -32768, 32767},
		},
		things: []Robot{
			{}, {Task: -1}, {1, 2, 3, 4, 5, 6, 7}, {7, 6, 4, 3, 2, 1, -5}, {63, 200, 4, 19, 16777215, 16777215, 32767},
			{9, 180, 1, 12, 0x010203, 0x040506, 0x0708}, {40, 33, 0, -1, 0xfdfeff, 0xfafbfc, -0x0102}, {17, 99, 2, 0, 300, 70000, -1},
		},
	}
}

// tasks answers the kind of the tasks.
func tasks() sort[Task] {
	return sort[Task]{
		name: "Task", lay: LayTask, read: ReadTask, words: taskWords, mayBe: mayBeTask,
		pieces: []piece[Task]{
			{"from", func(t *Task) *int { return &t.From }, 0, 63},
			{"to", func(t *Task) *int { return &t.To }, 0, 63},
			{"state", func(t *Task) *int { return &t.State }, 0, 3},
		},
		things: []Task{{}, {1, 2, 0}, {2, 1, 3}, {0, 63, 1}, {63, 0, 2}, {5, 5, 3}, {63, 63, 3}, {40, 17, 2}},
	}
}

// alls answers the kind of the states of all.
func alls() sort[All] {
	return sort[All]{
		name: "All", lay: LayAll, read: ReadAll, words: allWords, mayBe: mayBeAll,
		pieces: []piece[All]{{"tick", func(a *All) *int { return &a.Tick }, 0, 2147483647}},
		things: []All{
			{}, {1, [8]byte{}}, {0x01020304, [8]byte{5, 6, 7, 8, 9, 10, 11, 12}}, {0x7ffefdfc, [8]byte{255, 254, 253, 252, 128, 64, 1, 0}},
			{0, [8]byte{255, 255, 255, 255, 255, 255, 255, 255}}, {2147483647, [8]byte{255, 255, 255, 255, 255, 255, 255, 255}},
			{256, [8]byte{0, 0, 0, 0, 0, 0, 0, 1}}, {70000, [8]byte{128}},
		},
	}
}

// numbers answers a function that makes numbers from 0 on, always the same ones of one seed.
func numbers(seed uint64) func() int {
	return func() int {
		seed = seed*6364136223846793005 + 1442695040888963407
		return int(seed >> 33)
	}
}

// edges answers numbers that a piece may be: its least and its greatest, those beside them, and those where a byte begins.
func (p piece[T]) edges() (l []int) {
	for _, n := range []int{
		p.least, p.least + 1, p.most - 1, p.most, -32767, -257, -256, -255, -129, -128, -2, -1, 0, 1, 2, 3, 4, 5, 18, 19, 62, 63,
		127, 128, 199, 200, 254, 255, 256, 257, 32766, 32767, 65535, 65536, 0x010203, 1<<24 - 1, 1 << 24, 0x01020304, 1 << 30,
	} {
		if n >= p.least && n <= p.most {
			l = append(l, n)
		}
	}
	return l
}

// beyond answers numbers that a piece may not be: those beside its least and its greatest, and some that would be others, were they cut to fewer bits.
func (p piece[T]) beyond() (l []int) {
	for _, n := range []int{
		p.least - 1, p.most + 1, p.least - 2, p.most + 2, p.least - 256, p.most + 256, -1, -2, -255, -256, -257, -32769, -65536,
		64, 127, 128, 201, 255, 256, 257, 512, 32768, 65535, 65536, 65537, 1 << 24, 1<<24 + 1, 1 << 31, 1<<31 + 1, 1<<32 - 1, 1 << 32, 1<<32 + 1,
		-1 << 24, -1 << 31, -1<<31 - 1, -1 << 32, -1<<32 + 1, 1 << 40, 1 << 62, math.MaxInt - 1, math.MaxInt, math.MinInt, math.MinInt + 1, math.MinInt + 32768,
	} {
		if n < p.least || n > p.most {
			l = append(l, n)
		}
	}
	return l
}

// with answers a thing whose piece is another number.
func (p piece[T]) with(thing T, n int) T {
	*p.of(&thing) = n
	return thing
}

// lays fails the test, if a thing isn't laid as the chapter's words say, or isn't read as it was; it answers its value.
func (k sort[T]) lays(t *testing.T, thing T) string {
	t.Helper()
	s, err := k.lay(thing)
	if want := k.words(thing); err != nil || s != want {
		t.Fatalf("Lay%s(%v) = %q, %v, want %q", k.name, thing, s, err, want)
	}
	if got, err := k.read(s); err != nil || got != thing {
		t.Fatalf("Read%s(%q) = %v, %v, want %v", k.name, s, got, err, thing)
	}
	return s
}

// refuses fails the test, if Lay doesn't answer ErrSize, and nothing beside it.
func (k sort[T]) refuses(t *testing.T, thing T) {
	t.Helper()
	s, err := k.lay(thing)
	if s != "" || tag.Num(err) != 8 || !tag.Same(err, api.ErrSize) {
		t.Fatalf("Lay%s(%v) = %q, %v, want ErrSize", k.name, thing, s, err)
	}
}

// reads fails the test, if a text isn't read as the chapter's words say: as a thing of which it is laid, else not at all.
func (k sort[T]) reads(t *testing.T, s string) {
	t.Helper()
	got, err := k.read(s)
	if !k.mayBe(s) {
		var none T
		if got != none || tag.Num(err) != 2 || !tag.Same(err, api.ErrForm) {
			t.Fatalf("Read%s(%q) = %v, %v, want ErrForm", k.name, s, got, err)
		}
		return
	}
	if err != nil || k.words(got) != s {
		t.Fatalf("Read%s(%q) = %v, %v", k.name, s, got, err)
	}
	for _, p := range k.pieces {
		if n := *p.of(&got); n < p.least || n > p.most {
			t.Fatalf("Read%s(%q) = %v: %s", k.name, s, got, p.name)
		}
	}
}

// ends answers a thing whose pieces are all at their least, and one whose pieces are all at their greatest.
func (k sort[T]) ends() (low, high T) {
	for _, p := range k.pieces {
		low, high = p.with(low, p.least), p.with(high, p.most)
	}
	return low, high
}

// bases answers things of which one piece is changed: the ordinary ones, and those at their ends.
func (k sort[T]) bases() []T {
	low, high := k.ends()
	return append([]T{low, high}, k.things...)
}

// 12.1: the chapter's example, and other values written out.
func TestValues(t *testing.T) {
	for _, c := range []struct {
		robot Robot
		want  string
	}{
		{Robot{}, "\x00\x00\x00\x01\x00\x00\x00\x00\x00\x00\x80\x00"},
		{Robot{Task: -1}, "\x00\x00\x00\x00\x00\x00\x00\x00\x00\x00\x80\x00"},
		{Robot{Cell: 1, Charge: 2, Phase: 3, Task: 4, Moved: 0x060708, Gained: 0x090a0b, Adjusted: 0x0c0d}, "\x01\x02\x03\x05\x06\x07\x08\x09\x0a\x0b\x8c\x0d"},
		{Robot{Cell: 63, Charge: 200, Phase: 4, Task: 19, Moved: 1<<24 - 1, Gained: 1<<24 - 1, Adjusted: 1<<15 - 1}, "\x3f\xc8\x04\x14\xff\xff\xff\xff\xff\xff\xff\xff"},
		{Robot{Task: -1, Adjusted: -1 << 15}, "\x00\x00\x00\x00\x00\x00\x00\x00\x00\x00\x00\x00"},
		{Robot{Task: -1, Adjusted: -1}, "\x00\x00\x00\x00\x00\x00\x00\x00\x00\x00\x7f\xff"},
		{Robot{Moved: 256, Gained: 65536, Adjusted: 1}, "\x00\x00\x00\x01\x00\x01\x00\x01\x00\x00\x80\x01"},
		{Robot{Moved: 65535, Gained: 255, Adjusted: -256}, "\x00\x00\x00\x01\x00\xff\xff\x00\x00\xff\x7f\x00"},
	} {
		if got := robots().lays(t, c.robot); got != c.want {
			t.Errorf("LayRobot(%v) = %q, want %q", c.robot, got, c.want)
		}
	}
	for _, c := range []struct {
		task Task
		want string
	}{
		{Task{From: 1, To: 2, State: 0}, "\x01\x02\x00\x00\x00\x00\x00\x00\x00\x00\x00\x00"},
		{Task{}, "\x00\x00\x00\x00\x00\x00\x00\x00\x00\x00\x00\x00"},
		{Task{From: 63, To: 62, State: 3}, "\x3f\x3e\x03\x00\x00\x00\x00\x00\x00\x00\x00\x00"},
	} {
		if got := tasks().lays(t, c.task); got != c.want {
			t.Errorf("LayTask(%v) = %q, want %q", c.task, got, c.want)
		}
	}
	for _, c := range []struct {
		all  All
		want string
	}{
		{All{}, "\x00\x00\x00\x00\x00\x00\x00\x00\x00\x00\x00\x00"},
		{All{Tick: 258, Off: [8]byte{1, 2, 3, 4, 5, 6, 7, 8}}, "\x00\x00\x01\x02\x01\x02\x03\x04\x05\x06\x07\x08"},
		{All{Tick: 1<<31 - 1, Off: [8]byte{0: 1 << 1, 7: 1 << 7}}, "\x7f\xff\xff\xff\x02\x00\x00\x00\x00\x00\x00\x80"}, // the cells 1 and 63 are off
	} {
		if got := alls().lays(t, c.all); got != c.want {
			t.Errorf("LayAll(%v) = %q, want %q", c.all, got, c.want)
		}
	}
}

// 12.1, 12.3: ordinary things, there and back, of 12 bytes each.
func TestOrdinaryThings(t *testing.T) {
	ordinary(t, robots())
	ordinary(t, tasks())
	ordinary(t, alls())
}

func ordinary[T comparable](t *testing.T, k sort[T]) {
	t.Helper()
	for _, thing := range k.bases() {
		s := k.lays(t, thing)
		if len(s) != 12 {
			t.Errorf("Lay%s(%v) has %d bytes", k.name, thing, len(s))
		}
		k.reads(t, s)
	}
}

// 12.1, 12.3: each piece at each of its edges, with all others of many things, those at their least and at their greatest among them.
func TestEdges(t *testing.T) {
	atEdges(t, robots())
	atEdges(t, tasks())
	atEdges(t, alls())
}

func atEdges[T comparable](t *testing.T, k sort[T]) {
	t.Helper()
	for _, base := range k.bases() {
		for _, p := range k.pieces {
			for _, n := range p.edges() {
				k.lays(t, p.with(base, n))
			}
		}
	}
}

// 12.1, 12.3: two pieces at once, each at each of its edges.
func TestEdgesOfTwo(t *testing.T) {
	atEdgesOfTwo(t, robots())
	atEdgesOfTwo(t, tasks())
}

func atEdgesOfTwo[T comparable](t *testing.T, k sort[T]) {
	t.Helper()
	low, high := k.ends()
	for i, p := range k.pieces {
		for _, q := range k.pieces[i+1:] {
			for _, n := range p.edges() {
				for _, m := range q.edges() {
					k.lays(t, q.with(p.with(low, n), m))
					k.lays(t, q.with(p.with(high, n), m))
				}
			}
		}
	}
}

// 12.1: a piece beyond its bounds, and two of them: ErrSize, whatever the others are.
func TestBeyond(t *testing.T) {
	goBeyond(t, robots())
	goBeyond(t, tasks())
	goBeyond(t, alls())
}

func goBeyond[T comparable](t *testing.T, k sort[T]) {
	t.Helper()
	for _, base := range k.bases() {
		for i, p := range k.pieces {
			for _, n := range p.beyond() {
				bad := p.with(base, n)
				k.refuses(t, bad)
				for _, q := range k.pieces[i+1:] {
					k.refuses(t, q.with(bad, q.least-1))
					k.refuses(t, q.with(bad, q.most+1))
					k.refuses(t, q.with(bad, n))
				}
			}
		}
	}
}

// 12.1: a piece at each number from below its least to above its greatest: just those between can be laid.
func TestEachNumber(t *testing.T) {
	eachNumber(t, robots())
	eachNumber(t, tasks())
	eachNumber(t, alls())
}

func eachNumber[T comparable](t *testing.T, k sort[T]) {
	t.Helper()
	low, high := k.ends()
	for _, p := range k.pieces {
		for _, base := range []T{low, high} {
			for n := p.least - 300; n <= min(p.most+300, p.least+70000); n++ {
				if n < p.least || n > p.most {
					k.refuses(t, p.with(base, n))
				} else {
					k.lays(t, p.with(base, n))
				}
			}
		}
	}
}

// 12.1, 12.3: each cell off alone, all but it, all and none, as chapter 6's bits have them.
func TestCellsThatAreOff(t *testing.T) {
	k := alls()
	for _, tick := range []int{0, 1, 258, 2147483647} {
		for cell := range 64 {
			var off, on [8]byte
			for i := range on {
				on[i] = 255
			}
			off[cell/8] |= 1 << (cell % 8)
			on[cell/8] &^= 1 << (cell % 8)
			s := k.lays(t, All{tick, off})
			for i := range 8 {
				want := byte(0)
				if i == cell/8 {
					want = []byte{1, 2, 4, 8, 16, 32, 64, 128}[cell%8]
				}
				if s[4+i] != want {
					t.Errorf("the cell %d off: %q", cell, s)
				}
			}
			k.lays(t, All{tick, on})
		}
		k.lays(t, All{Tick: tick})
		k.lays(t, All{tick, [8]byte{255, 255, 255, 255, 255, 255, 255, 255}})
	}
}

// 12.1: how the cells are doesn't help a tick that may not be.
func TestTicksBeyond(t *testing.T) {
	for _, tick := range []int{-1, -2, 1 << 31, 1<<31 + 1, 1<<32 - 1, 1 << 32, 1<<32 + 5, -1 << 31, -1 << 32, math.MinInt, math.MaxInt} {
		for _, off := range [][8]byte{{}, {1}, {7: 128}, {255, 255, 255, 255, 255, 255, 255, 255}} {
			alls().refuses(t, All{tick, off})
		}
	}
}

// 12.2: of each value, each byte changed to each of the 256 that it may be.
func TestEachByte(t *testing.T) {
	eachByte(t, robots())
	eachByte(t, tasks())
	eachByte(t, alls())
}

func eachByte[T comparable](t *testing.T, k sort[T]) {
	t.Helper()
	for _, thing := range k.bases() {
		s := k.words(thing)
		for i := range len(s) {
			for b := range 256 {
				k.reads(t, s[:i]+string([]byte{byte(b)})+s[i+1:])
			}
		}
	}
}

// 12.2: of each value, each two bytes changed.
func TestEachTwoBytes(t *testing.T) {
	eachTwoBytes(t, robots())
	eachTwoBytes(t, tasks())
	eachTwoBytes(t, alls())
}

func eachTwoBytes[T comparable](t *testing.T, k sort[T]) {
	t.Helper()
	some := []byte{0, 1, 3, 4, 5, 19, 20, 21, 63, 64, 127, 128, 200, 201, 255}
	for _, thing := range k.bases() {
		s := k.words(thing)
		for i := range len(s) {
			for j := range i {
				for _, b := range some {
					for _, c := range some {
						bytes := []byte(s)
						bytes[i], bytes[j] = b, c
						k.reads(t, string(bytes))
					}
				}
			}
		}
	}
}

// 12.2: texts of other lengths, a value's beginning, its end and what goes on behind it among them.
func TestOtherLengths(t *testing.T) {
	otherLengths(t, robots())
	otherLengths(t, tasks())
	otherLengths(t, alls())
}

func otherLengths[T comparable](t *testing.T, k sort[T]) {
	t.Helper()
	for _, n := range []int{0, 1, 2, 3, 4, 5, 10, 11, 13, 14, 16, 23, 24, 25, 35, 120, 128, 256, 268, 4096, 1 << 20} {
		for _, b := range []string{"\x00", "\x01", "\xff"} {
			k.reads(t, strings.Repeat(b, n))
		}
	}
	for _, thing := range k.bases() {
		s := k.words(thing)
		for n := range 12 {
			k.reads(t, s[:n])
			k.reads(t, s[n+1:])
			k.reads(t, s[:n]+s[n+1:])
			k.reads(t, s[:n]+"\x00"+s[n:])
			k.reads(t, s+s[:n+1])
		}
		k.reads(t, s+strings.Repeat("\x00", 256))
		k.reads(t, strings.Repeat(s, 1000))
	}
}

// 12.2: a task's bytes behind its state, one of them or all not zero.
func TestBytesBehindATask(t *testing.T) {
	for _, s := range []string{
		"\x01\x02\x00\x01\x00\x00\x00\x00\x00\x00\x00\x00", "\x01\x02\x00\x00\x00\x00\x00\x00\x00\x00\x00\x01",
		"\x01\x02\x00\x00\x00\x00\x00\x80\x00\x00\x00\x00", "\x01\x02\x00\x00\x00\x00\x00\x00\xff\x00\x00\x00",
		"\x01\x02\x00\xff\xff\xff\xff\xff\xff\xff\xff\xff", "\x01\x02\x00         ",
	} {
		if got, err := ReadTask(s); got != (Task{}) || tag.Num(err) != 2 {
			t.Errorf("ReadTask(%q) = %v, %v", s, got, err)
		}
	}
}

// 12.2: bytes beyond the bounds, each written out: one behind the greatest, and the greatest byte.
func TestBytesBeyond(t *testing.T) {
	for _, s := range []string{
		"\x40\x00\x00\x00\x00\x00\x00\x00\x00\x00\x00\x00", "\xff\x00\x00\x00\x00\x00\x00\x00\x00\x00\x00\x00",
		"\x00\xc9\x00\x00\x00\x00\x00\x00\x00\x00\x00\x00", "\x00\xff\x00\x00\x00\x00\x00\x00\x00\x00\x00\x00",
		"\x00\x00\x05\x00\x00\x00\x00\x00\x00\x00\x00\x00", "\x00\x00\xff\x00\x00\x00\x00\x00\x00\x00\x00\x00",
		"\x00\x00\x00\x15\x00\x00\x00\x00\x00\x00\x00\x00", "\x00\x00\x00\xff\x00\x00\x00\x00\x00\x00\x00\x00",
	} {
		if got, err := ReadRobot(s); got != (Robot{}) || tag.Num(err) != 2 {
			t.Errorf("ReadRobot(%q) = %v, %v", s, got, err)
		}
	}
	for _, s := range []string{
		"\x40\x00\x00\x00\x00\x00\x00\x00\x00\x00\x00\x00", "\x00\x40\x00\x00\x00\x00\x00\x00\x00\x00\x00\x00",
		"\x00\x00\x04\x00\x00\x00\x00\x00\x00\x00\x00\x00", "\xff\xff\xff\x00\x00\x00\x00\x00\x00\x00\x00\x00",
	} {
		if got, err := ReadTask(s); got != (Task{}) || tag.Num(err) != 2 {
			t.Errorf("ReadTask(%q) = %v, %v", s, got, err)
		}
	}
	for _, s := range []string{
		"\x80\x00\x00\x00\x00\x00\x00\x00\x00\x00\x00\x00", "\xff\xff\xff\xff\x00\x00\x00\x00\x00\x00\x00\x00",
		"\x80\x00\x00\x01\x01\x02\x03\x04\x05\x06\x07\x08", "\xff\xff\xff\xff\xff\xff\xff\xff\xff\xff\xff\xff",
	} {
		if got, err := ReadAll(s); got != (All{}) || tag.Num(err) != 2 {
			t.Errorf("ReadAll(%q) = %v, %v", s, got, err)
		}
	}
}

// 12.2: texts of 12 bytes of all sorts; every other one has its first four bytes within the bounds of most things.
func TestTextsOfAllSorts(t *testing.T) {
	next := numbers(1)
	for i := range 200000 {
		bytes := make([]byte, 12)
		for j := range bytes {
			bytes[j] = byte(next())
			if j < 4 && i%2 == 0 {
				bytes[j] %= 6
			}
			if j >= 3 && i%8 == 0 {
				bytes[j] = 0
			}
		}
		robots().reads(t, string(bytes))
		tasks().reads(t, string(bytes))
		alls().reads(t, string(bytes))
	}
}

// 12.3: things of all sorts, there and back.
func TestThingsOfAllSorts(t *testing.T) {
	allSorts(t, robots(), 1)
	allSorts(t, tasks(), 2)
	allSorts(t, alls(), 3)
}

func allSorts[T comparable](t *testing.T, k sort[T], seed uint64) {
	t.Helper()
	next := numbers(seed)
	for range 20000 {
		thing := k.things[next()%len(k.things)]
		for _, p := range k.pieces {
			thing = p.with(thing, p.least+next()%(p.most-p.least+1))
		}
		k.lays(t, thing)
	}
}

// 12.3: unlike things have unlike values.
func TestUnlikeThings(t *testing.T) {
	unlike(t, robots())
	unlike(t, tasks())
	unlike(t, alls())
}

func unlike[T comparable](t *testing.T, k sort[T]) {
	t.Helper()
	things, laid := map[T]int{}, map[string]int{}
	add := func(thing T) {
		if things[thing]++; things[thing] > 1 {
			return
		}
		s, err := k.lay(thing)
		if laid[s]++; err != nil || laid[s] > 1 {
			t.Fatalf("Lay%s(%v) = %q, %v: another one has that value", k.name, thing, s, err)
		}
	}
	next := numbers(4)
	for _, base := range k.bases() {
		for _, p := range k.pieces {
			for n := p.least; n <= min(p.most, p.least+3000); n++ {
				add(p.with(base, n))
			}
			for _, n := range p.edges() {
				add(p.with(base, n))
				q := k.pieces[next()%len(k.pieces)]
				for _, m := range q.edges() {
					add(q.with(p.with(base, n), m))
				}
			}
		}
	}
	if len(things) != len(laid) || len(things) < 1000 {
		t.Errorf("%d %ss have %d values", len(things), k.name, len(laid))
	}
}

// 12.3: states of all that are unlike in one bit of the cells alone, or in the tick.
func TestUnlikeCells(t *testing.T) {
	laid := map[string]int{}
	for _, tick := range []int{0, 1, 1 << 30} {
		for cell := range 65 {
			for other := range cell {
				a := All{Tick: tick}
				for _, n := range []int{cell, other} {
					if n < 64 {
						a.Off[n/8] |= 1 << (n % 8)
					}
				}
				laid[alls().lays(t, a)]++
			}
		}
	}
	if len(laid) != 3*65*64/2 {
		t.Errorf("%d values", len(laid))
	}
}

// DOC.md's rules 4 and 6: what was asked before changes no answer, and a later call changes no answer that was given.
func TestNothingIsKept(t *testing.T) {
	nothingKept(t, robots())
	nothingKept(t, tasks())
	nothingKept(t, alls())
}

func nothingKept[T comparable](t *testing.T, k sort[T]) {
	t.Helper()
	low, high := k.ends()
	var values []string
	var back []T
	for _, thing := range k.bases() {
		s, _ := k.lay(thing)
		got, _ := k.read(s)
		values, back = append(values, s), append(back, got)
		for _, other := range []T{high, low} {
			k.lays(t, other)
			k.lays(t, thing)
		}
		k.refuses(t, k.pieces[0].with(high, k.pieces[0].most+1))
		k.reads(t, strings.Repeat("\xff", 12))
		k.reads(t, s+"x")
		k.lays(t, thing)
	}
	for i, thing := range k.bases() {
		if values[i] != k.words(thing) || back[i] != thing {
			t.Errorf("%s %v: the answers were %q, %v then", k.name, thing, values[i], back[i])
		}
	}
}

// DOC.md's rule 4: what was read shares no cells with what was laid, nor with what is read again.
func TestCellsAreKeptApart(t *testing.T) {
	a := All{Tick: 3, Off: [8]byte{1, 2, 3, 4, 5, 6, 7, 8}}
	s, _ := LayAll(a)
	one, _ := ReadAll(s)
	two, _ := ReadAll(s)
	a.Off[0], one.Off[7] = 99, 99
	if two.Off != [8]byte{1, 2, 3, 4, 5, 6, 7, 8} || s != "\x00\x00\x00\x03\x01\x02\x03\x04\x05\x06\x07\x08" {
		t.Errorf("the answers are %v, %q", two, s)
	}
}
