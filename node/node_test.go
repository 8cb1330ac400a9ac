package node

import (
	"math"
	"slices"
	"strings"
	"testing"

	"dynamo/tag"
)

// keys are those that may be, and others: cut to four bytes, or turned round, some of the others would be.
var keys = []int{
	0, 1, 2, 127, 128, 255, 256, 257, 258, 1000, 1<<16 - 1, 1 << 16, 1<<24 - 1, 1 << 24, 0x01020304, 0xfffefdfc,
	1<<31 - 1, 1 << 31, 1<<31 + 1, 1<<32 - 2, 1<<32 - 1, 1 << 32, 1<<32 + 1, 1<<33 - 1, 1<<40 + 5, 1 << 62,
	-1, -2, -5, -255, -256, -1 << 31, -1 << 32, -1<<32 + 7, math.MaxInt, math.MaxInt - 1, math.MinInt, math.MinInt + 1,
}

// kids are those that may be, and others: cut to a byte, or turned round, some of the others would be.
var kids = []int{
	0, 1, 2, 3, 4, 100, 127, 128, 129, 238, 239, 240, 241, 254, 255, 256, 257, 258, 259, 495, 512, 514, 1 << 16, 1<<16 + 2,
	-1, -2, -3, -17, -239, -254, -256, -1000, 1<<32 + 2, 1 << 62, math.MaxInt, math.MinInt, math.MinInt + 2,
}

// numbers answers a function that makes numbers from 0 on, always the same ones of one seed.
func numbers(seed uint64) func() int {
	return func() int {
		seed = seed*6364136223846793005 + 1442695040888963407
		return int(seed >> 33)
	}
}

// value answers the n-th of many values, no two of them alike, some of them of bytes that are no text.
func value(n int) string {
	return string([]byte{byte(n), 0, 255, byte(n / 256), 'v', 0x80, '\n', byte(7 * n), 0xc3, 0, 0, byte(255 - n)})
}

// values answers many of them.
func values(many int) (l []string) {
	for n := range many {
		l = append(l, value(n+1))
	}
	return l
}

// steps answers many numbers, from one on.
func steps(many, from, by int) (l []int) {
	for n := range many {
		l = append(l, from+n*by)
	}
	return l
}

// leaf answers one of keys.
func leaf(keys ...int) Node { return Node{Keys: keys, Vals: values(len(keys))} }

// inner answers an inner node of keys, its children rising from 2 on.
func inner(keys ...int) Node { return Node{Keys: keys, Kids: steps(len(keys)+1, 2, 1)} }

// copied answers a node that shares nothing with n.
func copied(n Node) Node {
	return Node{Keys: slices.Clone(n.Keys), Vals: slices.Clone(n.Vals), Kids: slices.Clone(n.Kids)}
}

// alike tells whether two nodes are: a list without elements may be nil or not.
func alike(n, m Node) bool {
	return slices.Equal(n.Keys, m.Keys) && slices.Equal(n.Vals, m.Vals) && slices.Equal(n.Kids, m.Kids)
}

// mayBe tells whether a node is right, from the chapter's words: each two keys and each two children are held against each other.
func mayBe(n Node) bool {
	for i, k := range n.Keys {
		if k < 0 || k/65536/65536 > 0 {
			return false
		}
		for _, behind := range n.Keys[i+1:] {
			if behind <= k {
				return false
			}
		}
	}
	for i, k := range n.Kids {
		if k < 2 || k > 239 || slices.Contains(n.Kids[i+1:], k) {
			return false
		}
	}
	for _, v := range n.Vals {
		if len(v) != 12 {
			return false
		}
	}
	if len(n.Kids) == 0 {
		return len(n.Keys) <= 7 && len(n.Vals) == len(n.Keys)
	}
	return len(n.Keys) >= 1 && len(n.Keys) <= 7 && len(n.Vals) == 0 && len(n.Kids) == len(n.Keys)+1
}

// words answers a right node's data, byte by byte.
func words(n Node) string {
	var b []byte
	if len(n.Kids) == 0 {
		b = append(b, 0)
	} else {
		b = append(b, 1)
	}
	b = append(b, byte(len(n.Keys)))
	for _, k := range n.Keys {
		b = append(b, byte(k/16777216), byte(k/65536%256), byte(k/256%256), byte(k%256))
	}
	for _, v := range n.Vals {
		b = append(b, v...)
	}
	for _, k := range n.Kids {
		b = append(b, byte(k))
	}
	return string(b)
}

// told answers what data tell, and whether they are a right node's: their length is held against the one that the chapter's words give.
func told(data string) (n Node, ok bool) {
	if len(data) < 2 || data[0] > 1 || data[1] > 7 {
		return Node{}, false
	}
	many := int(data[1])
	if data[0] == 0 && len(data) != 2+16*many || data[0] == 1 && len(data) != 3+5*many {
		return Node{}, false
	}
	behind := 2 + 4*many
	for i := range many {
		k := 0
		for _, b := range []byte(data[2+4*i : 6+4*i]) {
			k = 256*k + int(b)
		}
		n.Keys = append(n.Keys, k)
	}
	for at := behind; data[0] == 0 && at < len(data); at += 12 {
		n.Vals = append(n.Vals, data[at:at+12])
	}
	for at := behind; data[0] == 1 && at < len(data); at++ {
		n.Kids = append(n.Kids, int(data[at]))
	}
	return n, mayBe(n)
}

// wants holds an error against the number that is asked (0 of none).
func wants(t *testing.T, err error, want int, call string, args ...any) {
	t.Helper()
	if got := tag.Num(err); got != want || (err == nil) != (want == 0) {
		t.Errorf("%s%v: error %d (%v), want %d", call, args, got, err, want)
	}
}

// holds holds Leaf, Right, Lay and Read of a node against the chapter's words, and that none of them changes it, spare room included.
func holds(t *testing.T, n Node) {
	t.Helper()
	was := copied(n)
	n = roomy(n)
	if got, want := Leaf(n), len(n.Kids) == 0; got != want {
		t.Errorf("Leaf(%v) = %v, want %v", n, got, want)
	}
	right := mayBe(n)
	if got := Right(n); got != right {
		t.Errorf("Right(%v) = %v, want %v", n, got, right)
	}
	data, err := Lay(n)
	if !right {
		wants(t, err, 1, "Lay", n)
		if data != "" {
			t.Errorf("Lay(%v) = %q beside an error", n, data)
		}
	} else {
		wants(t, err, 0, "Lay", n)
		if data != words(n) || len(data) > 120 {
			t.Errorf("Lay(%v) = %q, want %q", n, data, words(n))
		}
		reads(t, data)
		if back, _ := Read(data); !alike(back, n) {
			t.Errorf("Read(Lay(%v)) = %v", n, back)
		}
	}
	for _, key := range append([]int{-1, 0, 3, 1 << 32, math.MinInt, math.MaxInt}, n.Keys...) {
		seeks(t, n, key)
	}
	if !alike(n, was) || !slices.Equal(spare(n), marks) {
		t.Errorf("%v was changed: %v, behind it %v", was, n, spare(n))
	}
}

// marks stand in the spare room of a roomy node.
var marks = []int{-77, -78, -79}

// roomy answers a copy of a node in whose lists' spare room marks stand.
func roomy(n Node) Node {
	return Node{
		Keys: append(append(slices.Clone(n.Keys), marks...), 0)[:len(n.Keys)],
		Vals: append(append(slices.Clone(n.Vals), "mark"), "")[:len(n.Vals)],
		Kids: append(append(slices.Clone(n.Kids), marks...), 0)[:len(n.Kids)],
	}
}

// spare answers what stands in a roomy node's spare room, nothing if the lists don't agree.
func spare(n Node) []int {
	ofKeys := n.Keys[len(n.Keys) : len(n.Keys)+len(marks)]
	ofKids := n.Kids[len(n.Kids) : len(n.Kids)+len(marks)]
	if n.Vals[:len(n.Vals)+1][len(n.Vals)] != "mark" || !slices.Equal(ofKeys, ofKids) {
		return nil
	}
	return slices.Clone(ofKeys)
}

// seeks holds Seek against a count of the keys that are less.
func seeks(t *testing.T, n Node, key int) {
	t.Helper()
	less, has := 0, false
	if mayBe(n) {
		for _, k := range n.Keys {
			if k < key {
				less++
			}
			has = has || k == key
		}
	}
	if got, ok := Seek(n, key); got != less || ok != has {
		t.Errorf("Seek(%v, %d) = %d, %v, want %d, %v", n, key, got, ok, less, has)
	}
}

// reads holds Read of data against the chapter's words; what is read is laid as the data again.
func reads(t *testing.T, data string) {
	t.Helper()
	n, err := Read(data)
	want, ok := told(data)
	if !ok {
		wants(t, err, 2, "Read", data)
		if n.Keys != nil || n.Vals != nil || n.Kids != nil {
			t.Errorf("Read(%q) = %v beside an error", data, n)
		}
		return
	}
	wants(t, err, 0, "Read", data)
	if !alike(n, want) {
		t.Errorf("Read(%q) = %v, want %v", data, n, want)
	}
	if again, err := Lay(n); err != nil || again != data {
		t.Errorf("Lay(Read(%q)) = %q, %v", data, again, err)
	}
}

// 9.1: nodes and their data, written out.
func TestNodesWrittenOut(t *testing.T) {
	for _, c := range []struct {
		n    Node
		data string
	}{
		{Node{}, "\x00\x00"},
		{Node{Keys: []int{}, Vals: []string{}, Kids: []int{}}, "\x00\x00"},
		{Node{Keys: []int{5}, Vals: []string{"abcdefghijkl"}}, "\x00\x01\x00\x00\x00\x05abcdefghijkl"},
		{Node{Keys: []int{0, 1<<32 - 1}, Vals: []string{"abcdefghijkl", "mnopqrstuvwx"}},
			"\x00\x02\x00\x00\x00\x00\xff\xff\xff\xffabcdefghijklmnopqrstuvwx"},
		{Node{Keys: []int{0x01020304}, Kids: []int{239, 2}}, "\x01\x01\x01\x02\x03\x04\xef\x02"},
		{Node{Keys: []int{1, 258, 65536}, Kids: []int{9, 3, 200, 10}},
			"\x01\x03\x00\x00\x00\x01\x00\x00\x01\x02\x00\x01\x00\x00\x09\x03\xc8\x0a"},
	} {
		if data, err := Lay(c.n); err != nil || data != c.data {
			t.Errorf("Lay(%v) = %q, %v, want %q", c.n, data, err, c.data)
		}
		if n, err := Read(c.data); err != nil || !alike(n, c.n) {
			t.Errorf("Read(%q) = %v, %v, want %v", c.data, n, err, c.n)
		}
		if !Right(c.n) || Leaf(c.n) != (c.data[0] == 0) {
			t.Errorf("%v: right %v, leaf %v", c.n, Right(c.n), Leaf(c.n))
		}
	}
}

// 9.1, 9.3: leaves and inner nodes of each number of keys, of few to many values and children.
func TestEachNumberOfKeys(t *testing.T) {
	for many := range 10 {
		for _, by := range []int{1, 255, 256, 1 << 16, 1 << 24, 1<<29 + 3} {
			for vals := range 11 {
				holds(t, Node{Keys: steps(many, 1, by), Vals: values(vals)})
			}
			for kids := range 11 {
				holds(t, Node{Keys: steps(many, 1, by), Kids: steps(kids, 2, 1)})
				holds(t, Node{Keys: steps(many, 1, by), Kids: steps(kids, 239, -1)})
			}
		}
	}
}

// 9.1: a greatest leaf has 114 bytes, a greatest inner node 38.
func TestGreatestNodes(t *testing.T) {
	for _, c := range []struct {
		n    Node
		size int
	}{{leaf(steps(7, 1<<32-7, 1)...), 114}, {inner(steps(7, 1<<32-7, 1)...), 38}} {
		if data, err := Lay(c.n); err != nil || len(data) != c.size {
			t.Errorf("Lay(%v): %d bytes, %v, want %d", c.n, len(data), err, c.size)
		}
	}
}

// 9.1: each key, in each place of leaves and inner nodes of each number of keys.
func TestEachKey(t *testing.T) {
	for many := 1; many <= 7; many++ {
		for at := range many {
			for _, key := range keys {
				for _, by := range []int{1, 1000, 1 << 29} {
					list := steps(many, 1, by)
					list[at] = key
					holds(t, leaf(list...))
					holds(t, inner(list...))
				}
			}
		}
	}
}

// 9.1: keys of which two are alike, or stand the other way round.
func TestKeysThatDoNotRise(t *testing.T) {
	for many := 2; many <= 7; many++ {
		for at := range many {
			for other := range many {
				if at == other {
					continue
				}
				twice := steps(many, 3, 10)
				twice[at] = twice[other]
				turned := steps(many, 3, 10)
				turned[at], turned[other] = turned[other], turned[at]
				for _, list := range [][]int{twice, turned} {
					for _, n := range []Node{leaf(list...), inner(list...)} {
						if Right(n) {
							t.Errorf("%v is right", n)
						}
						holds(t, n)
					}
				}
			}
		}
	}
}

// 9.1: each child in each place.
func TestEachChild(t *testing.T) {
	for many := 1; many <= 7; many++ {
		for at := range many + 1 {
			for _, kid := range kids {
				n := Node{Keys: steps(many, 5, 5), Kids: steps(many+1, 20, 7)}
				n.Kids[at] = kid
				holds(t, n)
			}
		}
	}
}

// 9.1: each two children that are alike, wherever they stand.
func TestChildrenThatAreAlike(t *testing.T) {
	for many := 1; many <= 7; many++ {
		for at := range many + 1 {
			for other := range at {
				n := Node{Keys: steps(many, 5, 5), Kids: steps(many+1, 239, -30)}
				n.Kids[at] = n.Kids[other]
				if Right(n) {
					t.Errorf("%v is right", n)
				}
				holds(t, n)
			}
		}
	}
}

// 9.1: values of other lengths, in each place.
func TestEachLengthOfAValue(t *testing.T) {
	for many := 1; many <= 7; many++ {
		for at := range many {
			for _, size := range []int{0, 1, 11, 12, 13, 24, 120, 256 + 12} {
				n := leaf(steps(many, 0, 9)...)
				n.Vals[at] = strings.Repeat("x", size)
				if Right(n) != (size == 12) {
					t.Errorf("%v: right %v", n, Right(n))
				}
				holds(t, n)
			}
		}
	}
	short := leaf(1, 2)
	short.Vals = []string{"elevenbytes", "thirteenbytes"} // 24 bytes, too
	holds(t, short)
}

// 9.1: nodes of which a part is missing, or one too many.
func TestNodesOfOtherParts(t *testing.T) {
	for _, n := range []Node{
		{Vals: values(1)}, {Kids: []int{2}}, {Kids: []int{2, 3}}, {Keys: []int{1}}, {Keys: []int{}, Kids: []int{5}},
		{Keys: []int{1}, Kids: []int{2}}, {Keys: []int{1}, Kids: []int{2, 3, 4}},
		{Keys: []int{1}, Vals: values(1), Kids: []int{2, 3}}, {Keys: []int{1}, Vals: values(1), Kids: []int{2}},
		{Keys: []int{1}, Vals: []string{""}, Kids: []int{2, 3}}, {Vals: values(2), Kids: []int{2}},
	} {
		if Right(n) {
			t.Errorf("%v is right", n)
		}
		holds(t, n)
	}
	holds(t, Node{Keys: []int{1}, Vals: []string{}, Kids: []int{2, 3}})
	holds(t, Node{Keys: []int{1}, Vals: values(1), Kids: []int{}})
}

// 9.1: long lists.
func TestLongLists(t *testing.T) {
	for _, many := range []int{8, 255, 256, 257, 263, 1 << 16} {
		holdsNot(t, Node{Keys: steps(many, 0, 1), Vals: values(many)})
		holdsNot(t, Node{Keys: steps(many, 0, 1), Kids: steps(many+1, 2, 1)})
		holdsNot(t, Node{Keys: []int{1}, Kids: steps(many, 2, 1)})
		holdsNot(t, Node{Keys: []int{1}, Vals: values(many)})
		holdsNot(t, Node{Vals: values(many)})
	}
}

// holdsNot holds against each call that a node isn't right.
func holdsNot(t *testing.T, n Node) {
	t.Helper()
	data, err := Lay(n)
	wants(t, err, 1, "Lay", len(n.Keys), len(n.Vals), len(n.Kids))
	at, is := Seek(n, 1)
	if Right(n) || data != "" || at != 0 || is {
		t.Errorf("%d keys, %d values, %d children: right %v, data %q, at %d %v", len(n.Keys), len(n.Vals), len(n.Kids), Right(n), data, at, is)
	}
}

// 9.1, 9.3: nodes of any numbers, some of them not right.
func TestAnyNodes(t *testing.T) {
	next := numbers(9)
	right := 0
	for range 30000 {
		n := anyNode(next)
		holds(t, n)
		if mayBe(n) {
			right++
		}
	}
	if right < 5000 || right > 28000 {
		t.Errorf("%d right ones of 30000: too few, or too many", right)
	}
}

// anyNode answers a node of any numbers, most of them as they may be.
func anyNode(next func() int) (n Node) {
	key := 0
	many := next() % 9
	for range many {
		key += next() >> (next() % 32) % (1 << 29)
		n.Keys = append(n.Keys, key)
		key += (next() + 31) % 32 / 31
	}
	if next()%2 == 0 {
		n.Vals = values(many)
	} else {
		perm := steps(238, 2, 1)
		for i := range min(many+1, 238) {
			j := i + next()%(238-i)
			perm[i], perm[j] = perm[j], perm[i]
		}
		n.Kids = perm[:many+1]
	}
	switch next() % 20 {
	case 0:
		n.Keys = append(n.Keys, keys[next()%len(keys)])
	case 1:
		n.Kids = append(n.Kids, kids[next()%len(kids)])
	case 2:
		n.Vals = append(n.Vals, value(next()))
	case 3:
		n.Vals, n.Kids = nil, nil
	}
	return n
}

// 9.1: data that are cut behind each byte, or have more.
func TestReadOfOtherLengths(t *testing.T) {
	for many := range 8 {
		for _, n := range []Node{leaf(steps(many, 7, 1<<20)...), inner(steps(many, 7, 1<<20)...)} {
			data := words(n)
			for cut := range data {
				reads(t, data[:cut])
			}
			for _, more := range []string{"", "\x00", "\x02", "\xef", "x", data, strings.Repeat("\x00", 12), strings.Repeat("z", 16), "\x00\x00\x00\x09abcdefghijkl"} {
				reads(t, data+more)
			}
		}
	}
	for size := range 300 {
		reads(t, strings.Repeat("\x00", size))
		reads(t, strings.Repeat("\x01", size))
		reads(t, strings.Repeat("\xff", size))
	}
	reads(t, strings.Repeat("\x00", 1<<16))
}

// 9.1: a first byte and a count of each kind, ahead of bytes of each length that a node's data may have, and of that which the count would give.
func TestEachHead(t *testing.T) {
	next := numbers(91)
	for kind := range 256 {
		for many := range 256 {
			for _, size := range []int{0, 5*7 + 1, 16 * 7, 16 * many, 5*many + 1} {
				b := []byte{byte(kind), byte(many)}
				for range size {
					b = append(b, byte(next()))
				}
				if kind < 4 || kind > 250 || many < 9 {
					reads(t, string(b))
				}
			}
		}
	}
}

// 9.1: eight keys and more, all of them as they may be but for how many they are.
func TestReadOfTooManyKeys(t *testing.T) {
	for many := 8; many < 256; many++ {
		for _, n := range []Node{leaf(steps(many, 0, 3)...), {Keys: steps(many, 0, 3), Kids: steps(many+1, 2, 1)}} {
			if data := words(n); data[1] != byte(many) {
				t.Errorf("%d keys: %d told", many, data[1])
			}
			reads(t, words(n))
		}
	}
}

// 9.1: data of the right length whose keys don't rise.
func TestReadOfKeysThatDoNotRise(t *testing.T) {
	for many := 2; many <= 7; many++ {
		for at := range many {
			for other := range at {
				twice := steps(many, 1<<31-5, 3)
				twice[at] = twice[other]
				turned := steps(many, 1<<31-5, 3)
				turned[at], turned[other] = turned[other], turned[at]
				for _, list := range [][]int{twice, turned} {
					for _, n := range []Node{leaf(list...), inner(list...)} {
						_, err := Read(words(n))
						wants(t, err, 2, "Read", n)
						reads(t, words(n))
					}
				}
			}
		}
	}
}

// 9.1: data of the right length with each byte as a child, in each place: those that may not be, those that another is, all others.
func TestReadOfEachChild(t *testing.T) {
	for many := 1; many <= 7; many++ {
		for at := range many + 1 {
			for kid := range 256 {
				n := Node{Keys: steps(many, 5, 5), Kids: steps(many+1, 20, 7)}
				n.Kids[at] = kid
				_, err := Read(words(n))
				if mayBe(n) {
					wants(t, err, 0, "Read", n)
				} else {
					wants(t, err, 2, "Read", n)
				}
				reads(t, words(n))
			}
		}
	}
}

// 9.1: data with each bit turned.
func TestEachBitOfTheData(t *testing.T) {
	for many := range 8 {
		for _, n := range []Node{leaf(steps(many, 250, 1<<28)...), inner(steps(many+1, 250, 1<<28)[:max(many, 1)]...)} {
			data := words(n)
			for bit := range 8 * len(data) {
				b := []byte(data)
				b[bit/8] ^= 1 << (bit % 8)
				reads(t, string(b))
			}
		}
	}
}

// 9.2: where many keys stand: ahead of all, each key itself, between two, behind all.
func TestSeek(t *testing.T) {
	for many := range 8 {
		for _, by := range []int{1, 2, 3, 1 << 20, 1 << 29} {
			list := steps(many, by/2, by)
			for _, n := range []Node{leaf(list...), inner(list...)} {
				for _, key := range append(slices.Clone(keys), list...) {
					for off := -2; off <= 2; off++ {
						seeks(t, n, key+off)
					}
				}
			}
		}
	}
}

// 9.2: places written out.
func TestSeekWrittenOut(t *testing.T) {
	for _, c := range []struct {
		n   Node
		key int
		at  int
		is  bool
	}{
		{Node{}, 0, 0, false}, {Node{}, 5, 0, false},
		{leaf(3, 5, 9), 2, 0, false}, {leaf(3, 5, 9), 3, 0, true}, {leaf(3, 5, 9), 4, 1, false}, {leaf(3, 5, 9), 5, 1, true},
		{leaf(3, 5, 9), 9, 2, true}, {leaf(3, 5, 9), 10, 3, false}, {inner(3, 5, 9), 9, 2, true}, {inner(3, 5, 9), 100, 3, false},
		{leaf(0, 1<<32-1), 0, 0, true}, {leaf(0, 1<<32-1), -1, 0, false}, {leaf(0, 1<<32-1), 1<<32 - 1, 1, true}, {leaf(0, 1<<32-1), 1 << 32, 2, false},
		{leaf(3, 5, 9), math.MinInt, 0, false}, {leaf(3, 5, 9), math.MaxInt, 3, false},
	} {
		if at, is := Seek(c.n, c.key); at != c.at || is != c.is {
			t.Errorf("Seek(%v, %d) = %d, %v, want %d, %v", c.n, c.key, at, is, c.at, c.is)
		}
	}
}

// 9.2: of a node that isn't right 0 and false, at a key that it has, too.
func TestSeekOfNoneRight(t *testing.T) {
	for _, n := range []Node{
		{Keys: []int{5}}, {Keys: []int{5}, Vals: []string{"short"}}, {Keys: []int{3, 5, 5}, Vals: values(3)}, {Keys: []int{3, 5, 4}, Vals: values(3)},
		{Keys: []int{3, 5}, Kids: []int{2, 3}}, {Keys: []int{3, 5}, Kids: []int{2, 3, 2}}, {Keys: []int{3, 5}, Kids: []int{2, 3, 240}},
		{Keys: []int{3, 5}, Vals: values(2), Kids: []int{2, 3, 4}}, {Keys: []int{-1, 5}, Vals: values(2)}, {Keys: []int{5, 1 << 32}, Vals: values(2)},
		leaf(steps(8, 0, 5)...), {Keys: steps(8, 0, 5), Kids: steps(9, 2, 1)}, {Keys: []int{3, 4, 5}, Vals: values(2)}, {Kids: []int{2}},
	} {
		for _, key := range append([]int{-1, 0, 1, 4, 5, 6, 1 << 32}, n.Keys...) {
			if at, is := Seek(n, key); at != 0 || is {
				t.Errorf("Seek(%v, %d) = %d, %v of a node that isn't right", n, key, at, is)
			}
		}
	}
}

// 9.1, 9.3: what was read shares no memory, spare room included: neither its lists with each other, nor with what is read next, nor with a node that was laid.
func TestNothingIsShared(t *testing.T) {
	for many := 1; many <= 7; many++ {
		for _, n := range []Node{leaf(steps(many, 3, 9)...), inner(steps(many, 3, 9)...)} {
			data, err := Lay(n)
			wants(t, err, 0, "Lay", n)
			first, _ := Read(data)
			second, _ := Read(data)
			lists := []*Node{&first, &second}
			for i, m := range lists {
				spoil(t, m.Keys, m, lists[1-i], n)
				spoil(t, m.Vals, m, lists[1-i], n)
				spoil(t, m.Kids, m, lists[1-i], n)
			}
			if again, err := Read(data); err != nil || !alike(again, n) {
				t.Errorf("Read(%q) = %v, %v behind writes to what was read", data, again, err)
			}
		}
	}
}

// spoil writes to all of a list of m, spare room included, and looks whether anything else changed; then it is as it was.
func spoil[T comparable](t *testing.T, list []T, m, other *Node, laid Node) {
	t.Helper()
	all := list[:cap(list)]
	was, room := copied(*m), slices.Clone(all)
	counts := [3]int{}
	var none T
	for i := range all {
		all[i] = none
	}
	for i, same := range []bool{slices.Equal(was.Keys, m.Keys), slices.Equal(was.Vals, m.Vals), slices.Equal(was.Kids, m.Kids)} {
		if !same {
			counts[i]++
		}
	}
	if many := counts[0] + counts[1] + counts[2]; many > 1 || !alike(*other, laid) {
		t.Errorf("a write to a list of %v changed %d of its lists; another one that was read is %v", was, many, *other)
	}
	copy(all, room)
}
