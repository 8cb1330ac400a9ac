package heap

import (
	"cmp"
	"math"
	"slices"
	"testing"
)

// edges are numbers at which a cost or a number that is cut, turned round or taken from another one would be told wrongly.
var edges = []int{
	math.MinInt, math.MinInt + 1, -1 << 62, -1<<32 - 1, -1 << 32, -1<<31 - 1, -1 << 31, -257, -256, -2, -1, 0,
	1, 2, 255, 256, 1<<31 - 1, 1 << 31, 1<<32 - 1, 1 << 32, 1<<32 + 1, 1 << 53, 1<<53 + 1, 1 << 62, math.MaxInt - 1, math.MaxInt,
}

// numbers answers a function that makes numbers from 0 on, always the same ones of one seed.
func numbers(seed uint64) func() int {
	return func() int {
		seed = seed*6364136223846793005 + 1442695040888963407
		return int(seed >> 33)
	}
}

// order is the chapter's words of two items: the lesser cost first, of equal costs the lesser number.
func order(a, b Due) int {
	return cmp.Or(cmp.Compare(a.Cost, b.Cost), cmp.Compare(a.Id, b.Id))
}

// inOrder answers a list of its own, put in order by the library.
func inOrder(l []Due) []Due {
	l = slices.Clone(l)
	slices.SortFunc(l, order)
	return l
}

// beside is a heap, and the plain list that it is held against: its least item is looked for one by one.
type beside struct {
	t    *testing.T
	h    *Heap
	list []Due
}

// begin answers an empty heap and an empty list.
func begin(t *testing.T) *beside {
	t.Helper()
	b := &beside{t: t, h: New()}
	b.counts()
	return b
}

// counts holds Len against the list.
func (b *beside) counts() {
	b.t.Helper()
	if n := b.h.Len(); n != len(b.list) {
		b.t.Fatalf("Len: %d, want %d", n, len(b.list))
	}
}

// push pushes an item to both.
func (b *beside) push(x Due) {
	b.t.Helper()
	b.h.Push(x)
	b.list = append(b.list, x)
	b.counts()
}

// pop pops both, and holds what came.
func (b *beside) pop() {
	b.t.Helper()
	var want Due
	there := len(b.list) > 0
	if there {
		least := 0
		for i, x := range b.list {
			if order(x, b.list[least]) < 0 {
				least = i
			}
		}
		want = b.list[least]
		b.list = slices.Delete(b.list, least, least+1)
	}
	if got, ok := b.h.Pop(); got != want || ok != there {
		b.t.Fatalf("Pop: %v, %v, want %v, %v", got, ok, want, there)
	}
	b.counts()
}

// empty pops till nothing is there any more, and twice more.
func (b *beside) empty() {
	b.t.Helper()
	for range len(b.list) + 2 {
		b.pop()
	}
}

// holds holds a list sorted, and pushed and popped, against the same items put in order otherwise.
func holds(t *testing.T, l []Due) {
	t.Helper()
	was, want := slices.Clone(l), inOrder(l)
	if got := Sorted(l); !slices.Equal(got, want) {
		t.Fatalf("Sorted(%v): %v, want %v", was, got, want)
	}
	if !slices.Equal(l, was) {
		t.Fatalf("Sorted(%v) made %v of it", was, l)
	}
	h := New()
	for i, x := range l {
		h.Push(x)
		if n := h.Len(); n != i+1 {
			t.Fatalf("%v, pushed: Len behind %d pushes is %d", was, i+1, n)
		}
	}
	for i, x := range want {
		if got, ok := h.Pop(); got != x || !ok || h.Len() != len(want)-i-1 {
			t.Fatalf("%v, pushed: the pop %d: %v, %v, want %v; Len %d", was, i, got, ok, x, h.Len())
		}
	}
	if got, ok := h.Pop(); got != (Due{}) || ok || h.Len() != 0 {
		t.Fatalf("%v, pushed and popped: one more: %v, %v; Len %d", was, got, ok, h.Len())
	}
}

// The chapter's example.
func TestExample(t *testing.T) {
	h := New()
	h.Push(Due{5, 1})
	h.Push(Due{3, 2})
	if x, ok := h.Pop(); x != (Due{Cost: 3, Id: 2}) || !ok || h.Len() != 1 {
		t.Errorf("Pop: %v, %v; Len %d", x, ok, h.Len())
	}
	if x, ok := h.Pop(); x != (Due{Cost: 5, Id: 1}) || !ok || h.Len() != 0 {
		t.Errorf("Pop: %v, %v; Len %d", x, ok, h.Len())
	}
	if x, ok := h.Pop(); x != (Due{}) || ok || h.Len() != 0 {
		t.Errorf("Pop of an empty heap: %v, %v; Len %d", x, ok, h.Len())
	}
	if l := Sorted([]Due{{5, 1}, {3, 2}}); !slices.Equal(l, []Due{{3, 2}, {5, 1}}) {
		t.Errorf("Sorted: %v", l)
	}
}

// 15.1: Less, each answer by hand.
func TestLess(t *testing.T) {
	for _, c := range []struct {
		a, b Due
		want bool
	}{
		{Due{3, 2}, Due{5, 1}, true}, {Due{5, 1}, Due{3, 2}, false}, {Due{5, 1}, Due{5, 2}, true}, {Due{5, 2}, Due{5, 1}, false},
		{Due{5, 1}, Due{5, 1}, false}, {Due{}, Due{}, false}, {Due{-1, 0}, Due{0, -1}, true}, {Due{0, -1}, Due{-1, 0}, false},
		{Due{0, -1}, Due{0, 0}, true}, {Due{0, 0}, Due{0, -1}, false}, {Due{-1, 0}, Due{0, 0}, true}, {Due{10, 0}, Due{9, 0}, false},
		{Due{math.MinInt, 0}, Due{math.MaxInt, 0}, true}, {Due{math.MaxInt, 0}, Due{math.MinInt, 0}, false},
		{Due{7, math.MinInt}, Due{7, math.MaxInt}, true}, {Due{7, math.MaxInt}, Due{7, math.MinInt}, false},
		{Due{math.MinInt, math.MaxInt}, Due{math.MinInt + 1, math.MinInt}, true}, {Due{1 << 32, 0}, Due{1, 0}, false},
	} {
		if got := Less(c.a, c.b); got != c.want {
			t.Errorf("Less(%v, %v): %v", c.a, c.b, got)
		}
	}
}

// 15.1: Less of each two items at the edges: the lesser cost, of equal costs the lesser number; of two that aren't alike just one is less.
func TestLessAtEdges(t *testing.T) {
	for _, cost := range edges {
		for _, id := range edges {
			a := Due{cost, id}
			for _, other := range edges {
				for _, number := range edges {
					b := Due{other, number}
					if got := Less(a, b); got != (order(a, b) < 0) {
						t.Fatalf("Less(%v, %v): %v", a, b, got)
					}
				}
			}
		}
	}
}

// 15.1: a heap that is new, and one that is emptied, has nothing, as often as it is asked.
func TestEmpty(t *testing.T) {
	b := begin(t)
	b.empty()
	b.empty()
	b.push(Due{7, 3})
	b.empty()
	b.empty()
}

// 15.1: a heap of one item, whatever it is; an item of zeros is there, though it looks like nothing.
func TestOneItem(t *testing.T) {
	for _, cost := range edges {
		for _, id := range edges {
			b := begin(t)
			b.push(Due{cost, id})
			b.empty()
			holds(t, []Due{{cost, id}})
		}
	}
	h := New()
	h.Push(Due{})
	if x, ok := h.Pop(); x != (Due{}) || !ok {
		t.Errorf("an item of zeros: %v, %v", x, ok)
	}
	if x, ok := h.Pop(); x != (Due{}) || ok {
		t.Errorf("nothing: %v, %v", x, ok)
	}
}

// 15.1: each call of a nil heap: nothing, false, 0.
func TestNil(t *testing.T) {
	var h *Heap
	for range 3 {
		h.Push(Due{5, 1})
		h.Push(Due{})
		if n := h.Len(); n != 0 {
			t.Errorf("Len of nil: %d", n)
		}
		if x, ok := h.Pop(); x != (Due{}) || ok {
			t.Errorf("Pop of nil: %v, %v", x, ok)
		}
	}
	push, pop, count := h.Push, h.Pop, h.Len
	push(Due{1, 2})
	if x, ok := pop(); x != (Due{}) || ok || count() != 0 {
		t.Errorf("nil, by method values: %v, %v; Len %d", x, ok, count())
	}
	if n := New().Len(); n != 0 {
		t.Errorf("a new heap has %d of what was pushed to nil", n)
	}
}

// 15.1, 15.3: items all alike are there each as often as they were pushed, no more, no less.
func TestAlike(t *testing.T) {
	for _, x := range []Due{{}, {5, 1}, {-3, -4}, {math.MinInt, math.MinInt}, {math.MaxInt, math.MaxInt}} {
		for many := range 40 {
			b := begin(t)
			for range many {
				b.push(x)
			}
			b.empty()
			holds(t, slices.Repeat([]Due{x}, many))
		}
	}
}

// 15.1, 15.2, 15.3: of equal costs the lesser number comes first, in whatever order they are pushed.
func TestEqualCosts(t *testing.T) {
	for _, cost := range []int{math.MinInt, -1, 0, 7, math.MaxInt} {
		rising := make([]Due, 0, len(edges))
		for _, id := range edges {
			rising = append(rising, Due{cost, id})
		}
		falling := slices.Clone(rising)
		slices.Reverse(falling)
		if got := Sorted(falling); !slices.Equal(got, rising) {
			t.Errorf("Sorted, of the cost %d: %v", cost, got)
		}
		holds(t, rising)
		holds(t, falling)
		holds(t, append(falling, rising...))
	}
}

// 15.2: lists that there aren't: of none, nil, and a piece without items of one that has some.
func TestNoItems(t *testing.T) {
	for _, l := range [][]Due{nil, {}, make([]Due, 0, 9), make([]Due, 5)[2:2]} {
		if got := Sorted(l); len(got) != 0 {
			t.Errorf("Sorted of nothing: %v", got)
		}
		holds(t, l)
	}
}

// 15.2, 15.3: all lists of up to six items, of three costs or two costs and two numbers.
func TestAllLittleLists(t *testing.T) {
	for _, signs := range [][]Due{{{1, 0}, {2, 0}, {3, 0}}, {{1, 1}, {1, 2}, {2, 1}, {2, 2}}} {
		for many := range 7 {
			l, all := make([]Due, many), 1
			for range many {
				all *= len(signs)
			}
			for n := range all {
				for i, left := 0, n; i < many; i, left = i+1, left/len(signs) {
					l[i] = signs[left%len(signs)]
				}
				holds(t, l)
			}
		}
	}
}

// 15.2, 15.3: eight items that are all unlike, in each order.
func TestAllOrders(t *testing.T) {
	l := []Due{{-2, 0}, {0, -1}, {0, 0}, {0, 1}, {1, -5}, {4, 4}, {4, 5}, {9, 0}}
	var orders func(at int)
	orders = func(at int) {
		if at == len(l) {
			holds(t, l)
			return
		}
		for i := at; i < len(l); i++ {
			l[at], l[i] = l[i], l[at]
			orders(at + 1)
			l[at], l[i] = l[i], l[at]
		}
	}
	orders(0)
}

// 15.1, 15.3: all ways to go ten steps, each a push of one of two items, or a pop, one of an empty heap, too.
func TestAllLittleWays(t *testing.T) {
	all := 1
	for range 10 {
		all *= 3
	}
	for n := range all {
		b := begin(t)
		for left, step := n, 0; step < 10; left, step = left/3, step+1 {
			switch left % 3 {
			case 0:
				b.pop()
			case 1:
				b.push(Due{step % 4, 1})
			case 2:
				b.push(Due{2, -step})
			}
		}
		b.empty()
	}
}

// 15.1, 15.3: pushes, and pops in between, of hundreds of items; a heap that is emptied is pushed to again.
func TestPushesAndPops(t *testing.T) {
	for seed := range 60 {
		next, b := numbers(uint64(seed)), begin(t)
		costs, ids := next()%50+1, next()%20+1
		for round := range 6 {
			pushes := []int{5, 9, 1, 7, 4, 8}[round]
			for range 200 {
				if next()%10 < pushes {
					b.push(Due{next()%costs - costs/2, next()%ids - ids/3})
				} else {
					b.pop()
				}
			}
			if next()%2 == 0 {
				b.empty()
			}
		}
		b.empty()
	}
}

// 15.1, 15.3: pushes and pops in between of the least and the greatest ints, and those about them.
func TestPushesAndPopsAtEdges(t *testing.T) {
	for seed := range 60 {
		next, b := numbers(uint64(seed)+1000), begin(t)
		for range 500 {
			if next()%5 < 3 {
				b.push(Due{edges[next()%len(edges)], edges[next()%len(edges)]})
			} else {
				b.pop()
			}
		}
		b.empty()
	}
}

// 15.1: an item that is popped may be pushed again, once for each pop; what is less than all comes next, whenever it is pushed.
func TestPushedAgain(t *testing.T) {
	b := begin(t)
	for i := range 30 {
		b.push(Due{i / 3, i % 3})
	}
	for range 100 {
		x, ok := b.h.Pop()
		if !ok || x != (Due{}) {
			t.Fatalf("Pop: %v, %v, and it was pushed again each time", x, ok)
		}
		b.h.Push(x)
		b.counts()
	}
	for i := range 100 {
		b.push(Due{-i - 1, 0})
		b.pop()
		b.push(Due{100 + i, 0})
	}
	b.empty()
}

// 15.2, 15.3: lists that rise and that fall, in costs, in numbers, in both against each other, of all lengths up to some hundreds.
func TestRisingAndFalling(t *testing.T) {
	for many := range 300 {
		rising, falling, crossed, waves := make([]Due, many), make([]Due, many), make([]Due, many), make([]Due, many)
		for i := range many {
			rising[i], falling[i] = Due{i / 2, i % 2}, Due{-i / 2, -i % 2}
			crossed[i], waves[i] = Due{i - many/2, -i}, Due{(i * 7) % 11, many - i}
		}
		if got := Sorted(rising); !slices.Equal(got, rising) {
			t.Errorf("%d items that rise: %v", many, got)
		}
		for _, l := range [][]Due{rising, falling, crossed, waves} {
			holds(t, l)
		}
	}
}

// 15.2, 15.3: wild lists of some hundreds of items, with many alike, and with few.
func TestWildLists(t *testing.T) {
	next := numbers(5)
	for range 500 {
		l := make([]Due, next()%700)
		costs, ids := next()%900+1, next()%9+1
		for i := range l {
			l[i] = Due{next()%costs - costs/2, next()%ids - ids/2}
			if next()%20 == 0 {
				l[i] = Due{edges[next()%len(edges)], edges[next()%len(edges)]}
			}
		}
		holds(t, l)
	}
}

// 15.2, 15.3: long lists, in orders that a heap that isn't one goes through slowly.
func TestLongLists(t *testing.T) {
	const many = 1 << 18
	next := numbers(9)
	rising, falling, wild := make([]Due, many), make([]Due, many), make([]Due, many)
	for i := range many {
		rising[i], falling[i], wild[i] = Due{i, -i}, Due{-i, i}, Due{next(), next()}
	}
	for name, l := range map[string][]Due{"rising": rising, "falling": falling, "wild": wild, "alike": slices.Repeat([]Due{{1, 1}}, many)} {
		if !slices.Equal(Sorted(l), inOrder(l)) {
			t.Errorf("a long list, %s, isn't sorted", name)
		}
	}
}

// What was handed in is as it was, spare room and what stands around it included.
func TestListIsAsItWas(t *testing.T) {
	whole := make([]Due, 40)
	for i := range whole {
		whole[i] = Due{(i * 17) % 23, -i}
	}
	was := slices.Clone(whole)
	for from := range whole {
		for to := from; to <= len(whole); to++ {
			if got := Sorted(whole[from:to]); !slices.Equal(got, inOrder(was[from:to])) {
				t.Errorf("Sorted of those from %d to below %d: %v", from, to, got)
			}
			if !slices.Equal(whole, was) {
				t.Fatalf("Sorted of those from %d to below %d changed the list: %v", from, to, whole)
			}
		}
	}
}

// Lists that were answered are written to, up to their room: no later answer, no list that was handed in and no earlier answer changes.
func TestNothingShared(t *testing.T) {
	next := numbers(11)
	var given, was, answers [][]Due
	for many := range 40 {
		l := make([]Due, many, many+next()%5)
		for i := range l {
			l[i] = Due{next() % 6, next() % 3}
		}
		if many%4 == 0 {
			l = inOrder(l)
		}
		for range 2 {
			given, was = append(given, l), append(was, slices.Clone(l))
			answers = append(answers, Sorted(l))
		}
	}
	for i, l := range answers {
		l = l[:cap(l)]
		for k := range l {
			l[k] = Due{-1000 - i, k}
		}
	}
	for i, l := range answers {
		for k, x := range l[:cap(l)] {
			if x != (Due{-1000 - i, k}) {
				t.Fatalf("the answer %d shares room: %v", i, x)
			}
		}
		if !slices.Equal(given[i], was[i]) {
			t.Fatalf("the list %v became %v", was[i], given[i])
		}
		holds(t, given[i])
	}
}

// What was handed in isn't kept: a list that is changed behind the call changes no answer.
func TestNothingKept(t *testing.T) {
	l := []Due{{4, 1}, {2, 2}, {9, 0}, {2, 1}}
	want := inOrder(l)
	got := Sorted(l)
	clear(l)
	if !slices.Equal(got, want) {
		t.Errorf("the answer changed with the list: %v", got)
	}
	h, x := New(), Due{3, 3}
	h.Push(x)
	x.Cost, x.Id = -1, -1
	if y, ok := h.Pop(); y != (Due{3, 3}) || !ok {
		t.Errorf("the item changed behind its push: %v, %v", y, ok)
	}
	if x != (Due{-1, -1}) {
		t.Errorf("the item was changed: %v", x)
	}
}

// Heaps don't hang together: what one goes through, and what is sorted in between, no other one can tell.
func TestHeapsApart(t *testing.T) {
	next := numbers(13)
	heaps := make([]*beside, 9)
	for i := range heaps {
		heaps[i] = begin(t)
	}
	for step := range 6000 {
		b := heaps[next()%len(heaps)]
		if next()%9 < 5 {
			b.push(Due{next()%30 - 9, next() % 4})
		} else {
			b.pop()
		}
		if step%500 == 0 {
			holds(t, b.list)
		}
		for _, other := range heaps {
			other.counts()
		}
	}
	for _, b := range heaps {
		b.empty()
	}
	if New() == New() {
		t.Errorf("two new heaps are one")
	}
}
