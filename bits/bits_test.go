package bits

import (
	"math"
	"slices"
	"testing"
)

// none are no numbers of a set; cut to eight bits, or turned round, some of them would be.
var none = []int{
	-1, 240, -2, -7, -8, -9, -239, -240, -241, 241, 247, 248, 255, 256, 257, 479, 480, 1000, -1000,
	1 << 16, 1<<31 - 1, -1 << 31, 1 << 31, 1 << 32, 1<<32 + 7, 1<<62 + 1, -1 << 62,
	math.MinInt, math.MinInt + 1, math.MinInt + 7, math.MinInt + 8, math.MaxInt, math.MaxInt - 1, math.MaxInt - 7,
}

// edges are the ends of a search that the document names, and those beside them.
var edges = []int{
	math.MinInt, math.MinInt + 1, -1 << 32, -1000, -256, -241, -240, -239, -9, -8, -7, -2, -1,
	0, 1, 6, 7, 8, 9, 15, 16, 119, 120, 121, 231, 232, 233, 237, 238, 239,
	240, 241, 247, 248, 255, 256, 257, 1000, 1 << 32, math.MaxInt - 1, math.MaxInt,
}

// members tells of each number from 0 to 239 whether it is in a set.
type members [240]bool

// laid answers the bytes of a set as the chapter says them: the highest number of a byte first, each doubled by those behind it.
func laid(m members) (s Set) {
	for at := range s {
		for n := 8*at + 7; n >= 8*at; n-- {
			s[at] *= 2
			if m[n] {
				s[at]++
			}
		}
	}
	return s
}

// taken answers what is in a set, its bytes halved number by number.
func taken(s Set) (m members) {
	for at, b := range s {
		for n := 8 * at; n < 8*at+8; n++ {
			m[n] = b%2 == 1
			b /= 2
		}
	}
	return m
}

// numbers answers a function that makes numbers from 0 on, always the same ones of one seed.
func numbers(seed uint64) func() int {
	return func() int {
		seed = seed*6364136223846793005 + 1442695040888963407
		return int(seed >> 33)
	}
}

// those answers the members for which in holds.
func those(in func(n int) bool) (m members) {
	for n := range m {
		m[n] = in(n)
	}
	return m
}

// mixed answers members of which about share of 256 are in.
func mixed(seed uint64, share int) members {
	next := numbers(seed)
	return those(func(int) bool { return next()>>8%256 < share })
}

// kinds are members of many kinds: the first of them none, the second all.
func kinds() []members {
	l := []members{
		{},
		those(func(int) bool { return true }),
		those(func(n int) bool { return n%2 == 0 }),
		those(func(n int) bool { return n%2 == 1 }),
		those(func(n int) bool { return n%8 == 0 }),
		those(func(n int) bool { return n%8 == 7 }),
		those(func(n int) bool { return n%8 != 7 }),
		those(func(n int) bool { return n/8%2 == 1 }),
		those(func(n int) bool { return n < 120 }),
		those(func(n int) bool { return n >= 120 }),
		those(func(n int) bool { return n < 2 }),
		those(func(n int) bool { return n%3 == 0 || n%5 == 0 }),
	}
	for _, one := range []int{0, 1, 7, 8, 9, 63, 64, 127, 128, 231, 232, 238, 239} {
		l = append(l, those(func(n int) bool { return n == one }), those(func(n int) bool { return n != one }))
	}
	for seed := range uint64(6) {
		l = append(l, mixed(seed, 8), mixed(seed+10, 128), mixed(seed+20, 248))
	}
	return l
}

// bytesOf answers a set written out: its bytes as they are told, all others 0.
func bytesOf(told map[int]byte) (s Set) {
	for at, b := range told {
		s[at] = b
	}
	return s
}

// full answers the set of all numbers, written out.
func full() (s Set) {
	for i := range s {
		s[i] = 255
	}
	return s
}

// count answers how many are in.
func count(m members) int {
	c := 0
	for _, in := range m {
		if in {
			c++
		}
	}
	return c
}

// first answers what First should, reckoned from the greatest number down.
func first(m members, from, to int) (int, bool) {
	found, ok := 0, false
	for n := 239; n >= 0; n-- {
		if n >= from && n < to && !m[n] {
			found, ok = n, true
		}
	}
	return found, ok
}

// finds fails the test, if First answers something else.
func finds(t *testing.T, s Set, from, to, want int, wantOK bool) {
	t.Helper()
	if got, ok := First(s, from, to); got != want || ok != wantOK {
		t.Fatalf("First(%v, %d, %d) = %d, %v, want %d, %v", s, from, to, got, ok, want, wantOK)
	}
}

// 6.1: sets written out: which bit of which byte a number is.
func TestSetsWrittenOut(t *testing.T) {
	for _, c := range []struct {
		n, at int
		b     byte
	}{
		{0, 0, 1}, {1, 0, 2}, {2, 0, 4}, {3, 0, 8}, {4, 0, 16}, {5, 0, 32}, {6, 0, 64}, {7, 0, 128},
		{8, 1, 1}, {9, 1, 2}, {15, 1, 128}, {16, 2, 1}, {100, 12, 16}, {127, 15, 128}, {128, 16, 1}, {232, 29, 1}, {239, 29, 128},
	} {
		s := bytesOf(map[int]byte{c.at: c.b})
		if got := With(Set{}, c.n); got != s {
			t.Errorf("With(none, %d) = %v, want %v", c.n, got, s)
		}
		if got := Without(s, c.n); got != (Set{}) {
			t.Errorf("Without(%v, %d) = %v", s, c.n, got)
		}
		if !Has(s, c.n) || Has(Set{}, c.n) || Count(s) != 1 {
			t.Errorf("%d: Has %v, %v, Count %d", c.n, Has(s, c.n), Has(Set{}, c.n), Count(s))
		}
		rest := full()
		rest[c.at] -= c.b
		if got := Without(full(), c.n); got != rest || With(rest, c.n) != full() || Has(rest, c.n) || Count(rest) != 239 {
			t.Errorf("Without(all, %d) = %v, want %v", c.n, got, rest)
		}
	}
}

// 6.1: the empty set and that of all numbers.
func TestNoneAndAll(t *testing.T) {
	if Count(Set{}) != 0 || Count(full()) != 240 {
		t.Errorf("Count = %d, %d, want 0, 240", Count(Set{}), Count(full()))
	}
	up, down := Set{}, full()
	for n := range 240 {
		if Has(Set{}, n) || !Has(full(), n) {
			t.Errorf("Has of %d: %v, %v", n, Has(Set{}, n), Has(full(), n))
		}
		up, down = With(up, n), Without(down, n)
		if Count(up) != n+1 || Count(down) != 239-n {
			t.Errorf("behind %d: Count %d, %d", n, Count(up), Count(down))
		}
	}
	if up != full() || down != (Set{}) {
		t.Errorf("all put in: %v; all taken out: %v", up, down)
	}
}

// 6.1, 6.3: of sets of many kinds, each number asked, put in and taken out: it alone is changed, if it wasn't so already.
func TestEachNumberOfManySets(t *testing.T) {
	for _, m := range kinds() {
		s := laid(m)
		if taken(s) != m || Count(s) != count(m) {
			t.Fatalf("Count(%v) = %d, want %d", s, Count(s), count(m))
		}
		for n := range 240 {
			in, out := m, m
			in[n], out[n] = true, false
			if Has(s, n) != m[n] {
				t.Fatalf("Has(%v, %d) = %v", s, n, Has(s, n))
			}
			if got := With(s, n); got != laid(in) || taken(got) != in || !Has(got, n) || Count(got) != count(in) {
				t.Fatalf("With(%v, %d) = %v", s, n, got)
			}
			if got := Without(s, n); got != laid(out) || taken(got) != out || Has(got, n) || Count(got) != count(out) {
				t.Fatalf("Without(%v, %d) = %v", s, n, got)
			}
		}
	}
}

// 6.1: what is put in twice is in, what is taken out twice is out, and back and forth is the same set.
func TestTwiceAndBack(t *testing.T) {
	for _, m := range kinds() {
		s := laid(m)
		for _, n := range []int{0, 7, 8, 239} {
			in, out := With(s, n), Without(s, n)
			if With(in, n) != in || Without(out, n) != out || With(out, n) != in || Without(in, n) != out {
				t.Errorf("%v: %d put in and taken out again", s, n)
			}
			if (m[n] && in != s) || (!m[n] && out != s) {
				t.Errorf("%v: %d was so already", s, n)
			}
		}
	}
}

// 6.3: many numbers put in and taken out, one upon the other: those are in that should be, and no others.
func TestManySteps(t *testing.T) {
	next := numbers(6)
	var s Set
	var m members
	for range 5000 {
		n, in := next()%240, next()%2 == 0
		m[n] = in
		if in {
			s = With(s, n)
		} else {
			s = Without(s, n)
		}
		if taken(s) != m || Has(s, n) != in || Count(s) != count(m) {
			t.Fatalf("behind %d, %v: %v, want %v", n, in, s, laid(m))
		}
	}
	for n := range 240 {
		if Has(s, n) != m[n] {
			t.Errorf("Has(%v, %d) = %v", s, n, Has(s, n))
		}
	}
}

// 6.1: other numbers are in no set, and put in or taken out change none.
func TestOtherNumbers(t *testing.T) {
	for _, m := range kinds() {
		s := laid(m)
		for _, n := range none {
			if Has(s, n) {
				t.Errorf("Has(%v, %d)", s, n)
			}
			if got := With(s, n); got != s {
				t.Errorf("With(%v, %d) = %v", s, n, got)
			}
			if got := Without(s, n); got != s {
				t.Errorf("Without(%v, %d) = %v", s, n, got)
			}
		}
	}
}

// 6.1: Both of many pairs has what is in either, and nothing else.
func TestBoth(t *testing.T) {
	for _, a := range kinds() {
		for _, b := range kinds() {
			s, t2 := laid(a), laid(b)
			got := Both(s, t2)
			want := those(func(n int) bool { return a[n] || b[n] })
			if got != laid(want) || taken(got) != want || Both(t2, s) != got || Count(got) != count(want) {
				t.Fatalf("Both(%v, %v) = %v, want %v", s, t2, got, laid(want))
			}
		}
		s := laid(a)
		if Both(s, s) != s || Both(s, Set{}) != s || Both(Set{}, s) != s || Both(s, full()) != full() || Both(full(), s) != full() {
			t.Errorf("Both of %v and itself, none, all", s)
		}
	}
}

// 6.2: the chapter's example, and others written out.
func TestFirstWrittenOut(t *testing.T) {
	two := With(With(Set{}, 0), 1)
	finds(t, two, 0, 240, 2, true)
	finds(t, two, 0, 3, 2, true)
	finds(t, two, 0, 2, 0, false)
	finds(t, two, 1, 2, 0, false)
	finds(t, two, 1, 3, 2, true)
	finds(t, two, 2, 3, 2, true)
	finds(t, two, 3, 240, 3, true)
	finds(t, two, math.MinInt, 2, 0, false)
	finds(t, two, math.MinInt, math.MaxInt, 2, true)
	finds(t, Set{}, 0, 240, 0, true)
	finds(t, Set{}, -1, 1, 0, true)
	finds(t, Set{}, 239, math.MaxInt, 239, true)
	finds(t, full(), math.MinInt, math.MaxInt, 0, false)
}

// 6.2: where from is to, or above it, there is none.
func TestFirstOfNoRoom(t *testing.T) {
	for _, s := range []Set{{}, full(), laid(mixed(1, 128))} {
		for _, from := range edges {
			for _, to := range edges {
				if from >= to {
					finds(t, s, from, to, 0, false)
				}
			}
		}
	}
}

// 6.2: where the one number that isn't in it is the last below to, the number from itself, or just outside.
func TestFirstAtTheEnds(t *testing.T) {
	for n := range 240 {
		s := Without(full(), n)
		finds(t, s, 0, n+1, n, true)
		finds(t, s, 0, n, 0, false)
		finds(t, s, n, 240, n, true)
		finds(t, s, n, n+1, n, true)
		finds(t, s, n+1, 240, 0, false)
		finds(t, s, math.MinInt, math.MaxInt, n, true)
		finds(t, s, n+1, math.MaxInt, 0, false)
		finds(t, s, math.MinInt, n, 0, false)
		finds(t, Set{}, n, 240, n, true)
		finds(t, Set{}, n, n+1, n, true)
		finds(t, With(Set{}, n), n, n+1, 0, false)
	}
	for n := range 239 {
		finds(t, With(Set{}, n), n, n+2, n+1, true)
	}
	finds(t, With(Set{}, 239), 239, 241, 0, false)
}

// 6.2: numbers that aren't 0 to 239 are none, however far from and to reach.
func TestFirstBeyondTheNumbers(t *testing.T) {
	for _, to := range []int{240, 241, 255, 256, 1 << 32, math.MaxInt} {
		finds(t, full(), 0, to, 0, false)
		finds(t, full(), 239, to, 0, false)
		finds(t, Without(full(), 239), 0, to, 239, true)
		for _, from := range []int{240, 241, 248, 255, 256, 1 << 32, math.MaxInt} {
			finds(t, Set{}, from, to, 0, false)
		}
	}
	for _, from := range []int{-1, -8, -240, -256, -1 << 32, math.MinInt} {
		finds(t, Set{}, from, 240, 0, true)
		finds(t, full(), from, 240, 0, false)
		finds(t, With(Set{}, 0), from, 240, 1, true)
		for _, to := range []int{0, -1, -7, -256, math.MinInt + 1, math.MinInt} {
			finds(t, Set{}, from, to, 0, false)
		}
	}
}

// 6.2: of sets of many kinds, First between many pairs.
func TestFirstBetweenManyPairs(t *testing.T) {
	for seed, m := range kinds() {
		s := laid(m)
		pairs := slices.Clone(edges)
		next := numbers(uint64(seed))
		for range 10 {
			pairs = append(pairs, next()%240)
		}
		for _, from := range pairs {
			for _, to := range pairs {
				want, ok := first(m, from, to)
				finds(t, s, from, to, want, ok)
			}
		}
	}
}

// 6.2: all pairs of one set.
func TestFirstBetweenAllPairs(t *testing.T) {
	for _, m := range []members{mixed(3, 200), mixed(4, 60)} {
		s := laid(m)
		for from := -3; from < 244; from++ {
			for to := -3; to < 244; to++ {
				want, ok := first(m, from, to)
				finds(t, s, from, to, want, ok)
			}
		}
	}
}

// DOC.md's rules 4 and 6: what is handed in isn't changed, and what was asked before changes no answer.
func TestNothingIsChangedOrKept(t *testing.T) {
	s, t2 := laid(mixed(1, 128)), laid(mixed(2, 128))
	wasS, wasT := s, t2
	for range 2 {
		one := With(s, 7)
		one[0] = 0
		two := Without(s, 7)
		two[1] = 255
		three := Both(s, t2)
		three[2] = 85
		Count(s)
		Has(s, 7)
		First(s, 0, 240)
		if s != wasS || t2 != wasT {
			t.Fatalf("%v, %v, want %v, %v", s, t2, wasS, wasT)
		}
		finds(t, With(With(Set{}, 0), 1), 0, 240, 2, true)
	}
}
