package pack

import (
	"math"
	"slices"
	"strings"
	"testing"

	"dynamo/api"
	"dynamo/tag"
)

// limits are the numbers behind the greatest ones of each width, 256^w; that of the width 0 stands first.
var limits = [5]int{1, 1 << 8, 1 << 16, 1 << 24, 1 << 32}

// noWidths are numbers that are no widths; cut to fewer bits, or eight times as much cut to 64, some of them would be.
var noWidths = []int{0, -1, 5, -2, -4, 6, 7, 8, 9, 16, 32, 64, 256, 257, 260, 1 << 29, 1<<32 + 1, 1<<61 + 1, math.MaxInt, math.MinInt, math.MinInt + 1}

// noNumbers are numbers that are none of any width; cut to 32 bits or fewer, some of them would be.
var noNumbers = []int{-1, -2, -255, -256, -257, -1 << 31, -1 << 32, -1<<32 + 1, math.MinInt, math.MinInt + 1, 1 << 32, 1<<32 + 1, 1<<40 + 7, 1<<62 + 1, math.MaxInt}

// bytewise reckons a number's bytes as the chapter says them, from the lowest one on.
func bytewise(w, n int) string {
	text := ""
	for range w {
		text = string([]byte{byte(n % 256)}) + text
		n /= 256
	}
	return text
}

// numbers answers a function that makes numbers, always the same ones of one seed.
func numbers(seed uint64) func() int {
	return func() int {
		seed = seed*6364136223846793005 + 1442695040888963407
		return int(seed >> 32)
	}
}

// edges answers numbers of w bytes: the least, the greatest, each byte alone and full, those around them.
func edges(w int) []int {
	var l []int
	for i := range w {
		for _, b := range []int{0, 1, 2, 127, 128, 254, 255} {
			l = append(l, b<<(8*i), limits[w]-1-b<<(8*i))
		}
		l = append(l, limits[i]-1, limits[i])
	}
	return append(l, 0x01020304%limits[w], 0xfedcba98%limits[w])
}

// repeated answers a list of n numbers, each of them v.
func repeated(n, v int) []int { return slices.Repeat([]int{v}, n) }

// wants fails the test, if an error has another number than that.
func wants(t *testing.T, err error, want api.Errno, call string, args ...any) {
	t.Helper()
	if tag.Num(err) != int(want) || !tag.Same(err, want) {
		t.Errorf("%s%#v: error %v, want %v", call, args, err, want)
	}
}

// refusesFields fails the test, if Fields doesn't answer that error, and nothing beside it.
func refusesFields(t *testing.T, widths, nums []int, want api.Errno) {
	t.Helper()
	s, err := Fields(widths, nums)
	wants(t, err, want, "Fields", widths, nums)
	if s != "" {
		t.Errorf("Fields(%v, %v) = %q beside an error", widths, nums, s)
	}
}

// refusesParse fails the test, if Parse doesn't answer that error, and nothing beside it.
func refusesParse(t *testing.T, widths []int, s string, want api.Errno) {
	t.Helper()
	nums, err := Parse(widths, s)
	wants(t, err, want, "Parse", widths, s)
	if len(nums) != 0 {
		t.Errorf("Parse(%v, %q) = %v beside an error", widths, s, nums)
	}
}

// 3.1: the chapter's example, and other bytes written out.
func TestPut(t *testing.T) {
	for _, c := range []struct {
		w, n int
		want string
	}{
		{2, 258, "\x01\x02"},
		{1, 0, "\x00"}, {2, 0, "\x00\x00"}, {3, 0, "\x00\x00\x00"}, {4, 0, "\x00\x00\x00\x00"},
		{1, 1, "\x01"}, {2, 1, "\x00\x01"}, {3, 1, "\x00\x00\x01"}, {4, 1, "\x00\x00\x00\x01"},
		{1, 255, "\xff"}, {2, 255, "\x00\xff"}, {2, 256, "\x01\x00"},
		{1, 65, "A"}, {2, 0x4142, "AB"}, {3, 0x414243, "ABC"}, {4, 0x41424344, "ABCD"},
		{3, 0x010203, "\x01\x02\x03"}, {4, 0x010203, "\x00\x01\x02\x03"}, {4, 0x01020304, "\x01\x02\x03\x04"},
		{2, 65535, "\xff\xff"}, {3, 1<<24 - 1, "\xff\xff\xff"}, {4, 1<<32 - 1, "\xff\xff\xff\xff"},
		{4, 1 << 31, "\x80\x00\x00\x00"}, {4, 1<<31 - 1, "\x7f\xff\xff\xff"},
	} {
		if got := Put(c.w, c.n); got != c.want {
			t.Errorf("Put(%d, %d) = %q, want %q", c.w, c.n, got, c.want)
		}
	}
}

// 3.1: 0, the greatest number of each width, and the one behind it.
func TestPutAtTheEdges(t *testing.T) {
	for w := 1; w <= 4; w++ {
		for _, n := range edges(w) {
			if got, want := Put(w, n), bytewise(w, n); got != want {
				t.Errorf("Put(%d, %d) = %q, want %q", w, n, got, want)
			}
		}
		if got := Put(w, limits[w]-1); got != strings.Repeat("\xff", w) {
			t.Errorf("Put(%d, %d) = %q", w, limits[w]-1, got)
		}
		for _, n := range []int{limits[w], limits[w] + 1, 2*limits[w] - 1, 2 * limits[w]} {
			if got := Put(w, n); got != "" {
				t.Errorf("Put(%d, %d) = %q", w, n, got)
			}
		}
	}
}

// 3.1: no bytes of another width, or of a number that no width has.
func TestPutOfWrong(t *testing.T) {
	for _, w := range noWidths {
		for _, n := range append([]int{0, 1, 255, 256, 1<<32 - 1}, noNumbers...) {
			if got := Put(w, n); got != "" {
				t.Errorf("Put(%d, %d) = %q", w, n, got)
			}
		}
	}
	for w := 1; w <= 4; w++ {
		for _, n := range noNumbers {
			if got := Put(w, n); got != "" {
				t.Errorf("Put(%d, %d) = %q", w, n, got)
			}
		}
	}
}

// 3.1: the number of the first w bytes; those behind them count for nothing.
func TestGet(t *testing.T) {
	for _, c := range []struct {
		s       string
		w, want int
	}{
		{"\x01\x02", 2, 258}, {"\x01\x02", 1, 1},
		{"\x01\x02\x03\x04", 1, 1}, {"\x01\x02\x03\x04", 2, 0x0102}, {"\x01\x02\x03\x04", 3, 0x010203}, {"\x01\x02\x03\x04", 4, 0x01020304},
		{"\x00", 1, 0}, {"\x00\x00\x00\x00", 4, 0}, {"\x00\x00\x00\x01", 3, 0}, {"\x00\x00\x00\x01", 4, 1},
		{"\xff", 1, 255}, {"\xff\xff", 2, 65535}, {"\xff\xff\xff", 3, 1<<24 - 1}, {"\xff\xff\xff\xff", 4, 1<<32 - 1},
		{"\x80\x00\x00\x00", 4, 1 << 31}, {"\xff\x00", 1, 255}, {"\x00\xff", 1, 0},
		{"é", 2, 0xc3a9}, {"é", 1, 0xc3}, {"ABCD", 4, 0x41424344},
		{"\x01\x02\x03\x04\x05", 4, 0x01020304}, {strings.Repeat("\x07", 1000), 2, 0x0707},
	} {
		got, err := Get(c.s, c.w)
		if err != nil || got != c.want {
			t.Errorf("Get(%q, %d) = %d, %v, want %d", c.s, c.w, got, err, c.want)
		}
	}
}

// 3.1: a text of each length, from none to more than the width.
func TestGetOfEachLength(t *testing.T) {
	const text = "\xf1\xf2\xf3\xf4\xf5\xf6"
	for w := 1; w <= 4; w++ {
		for n := range len(text) + 1 {
			got, err := Get(text[:n], w)
			if n < w {
				wants(t, err, api.ErrForm, "Get", text[:n], w)
				if got != 0 {
					t.Errorf("Get(%q, %d) = %d beside an error", text[:n], w, got)
				}
				continue
			}
			if err != nil || bytewise(w, got) != text[:w] {
				t.Errorf("Get(%q, %d) = %d, %v", text[:n], w, got, err)
			}
		}
	}
}

// 3.1: ErrArg of another width, whether there are bytes or not: it is named ahead of ErrForm.
func TestGetOfWrong(t *testing.T) {
	for _, w := range noWidths {
		for _, s := range []string{"", "\x01", "\x01\x02\x03\x04", "\x01\x02\x03\x04\x05\x06\x07\x08\x09", strings.Repeat("\xff", 300)} {
			got, err := Get(s, w)
			wants(t, err, api.ErrArg, "Get", s, w)
			if got != 0 {
				t.Errorf("Get(%q, %d) = %d beside an error", s, w, got)
			}
		}
	}
}

// 3.2: the sum of the widths.
func TestSize(t *testing.T) {
	for _, c := range []struct {
		widths []int
		want   int
	}{
		{nil, 0}, {[]int{}, 0}, {make([]int, 0, 9), 0},
		{[]int{1}, 1}, {[]int{2}, 2}, {[]int{3}, 3}, {[]int{4}, 4},
		{[]int{1, 2, 3, 4}, 10}, {[]int{4, 3, 2, 1}, 10}, {[]int{2, 2}, 4}, {[]int{1, 1, 1, 1, 3, 3, 2}, 12},
		{repeated(39, 4), 156}, {repeated(40, 1), 40}, {repeated(40, 4), 160},
		{repeated(41, 1), -1}, {repeated(41, 4), -1}, {repeated(42, 1), -1}, {repeated(1000, 2), -1}, {repeated(1<<20, 1), -1},
	} {
		if got := Size(c.widths); got != c.want {
			t.Errorf("Size of %d widths, %.30v = %d, want %d", len(c.widths), c.widths, got, c.want)
		}
	}
}

// 3.2: -1, wherever one stands that isn't a width, alone, or where the sum would be one of widths.
func TestSizeOfWrong(t *testing.T) {
	for _, w := range noWidths {
		for _, widths := range [][]int{
			{w}, {w, 1}, {1, w}, {1, w, 4}, {w, w}, {w, -w}, {4, 3, 2, w}, {w, 4, 3, 2},
			append(repeated(39, 1), w), append([]int{w}, repeated(39, 1)...), append(repeated(40, 1), w), append([]int{w}, repeated(40, 1)...),
		} {
			if got := Size(widths); got != -1 {
				t.Errorf("Size(%v) = %d", widths, got)
			}
		}
	}
}

// 3.2: the bytes of the numbers, one behind the other.
func TestFields(t *testing.T) {
	for _, c := range []struct {
		widths, nums []int
		want         string
	}{
		{[]int{2}, []int{258}, "\x01\x02"},
		{[]int{1, 2, 3, 4}, []int{1, 0x0203, 0x040506, 0x0708090a}, "\x01\x02\x03\x04\x05\x06\x07\x08\x09\x0a"},
		{[]int{4, 3, 2, 1}, []int{1, 2, 3, 4}, "\x00\x00\x00\x01\x00\x00\x02\x00\x03\x04"},
		{[]int{1, 1}, []int{1, 2}, "\x01\x02"},
		{[]int{1, 2, 3, 4}, []int{0, 0, 0, 0}, strings.Repeat("\x00", 10)},
		{[]int{1, 2, 3, 4}, []int{255, 65535, 1<<24 - 1, 1<<32 - 1}, strings.Repeat("\xff", 10)},
		{nil, nil, ""}, {nil, []int{}, ""}, {[]int{}, nil, ""}, {[]int{}, []int{}, ""},
		{repeated(40, 1), repeated(40, 9), strings.Repeat("\x09", 40)},
		{repeated(40, 4), repeated(40, 1<<32-1), strings.Repeat("\xff", 160)},
	} {
		got, err := Fields(c.widths, c.nums)
		if err != nil || got != c.want {
			t.Errorf("Fields(%v, %v) = %q, %v, want %q", c.widths, c.nums, got, err, c.want)
		}
		nums, err := Parse(c.widths, c.want)
		if err != nil || !slices.Equal(nums, c.nums) {
			t.Errorf("Parse(%v, %q) = %v, %v, want %v", c.widths, c.want, nums, err, c.nums)
		}
	}
}

// 3.2: ErrArg of such widths, whatever the numbers, and the text.
func TestFieldsOfWrongWidths(t *testing.T) {
	for _, w := range noWidths {
		for _, widths := range [][]int{{w}, {1, w}, {w, 1}, {1, w, 4}, {w, -w}, append(repeated(39, 1), w)} {
			for _, n := range []int{0, 1, 256, -1, 1 << 32} {
				refusesFields(t, widths, repeated(len(widths), n), api.ErrArg)
			}
			refusesFields(t, widths, nil, api.ErrArg)
			refusesFields(t, widths, repeated(len(widths)+1, 0), api.ErrArg)
			for _, n := range []int{0, 1, 2, 3, 4, 5, 39, 40, 41} {
				refusesParse(t, widths, strings.Repeat("\x01", n), api.ErrArg)
			}
		}
	}
}

// 3.2: 40 fields, and 41 of them.
func TestFieldsOfTooMany(t *testing.T) {
	for w := 1; w <= 4; w++ {
		for _, n := range []int{41, 42, 80, 1000} {
			refusesFields(t, repeated(n, w), repeated(n, 0), api.ErrArg)
			refusesFields(t, repeated(n, w), repeated(n, -1), api.ErrArg)
			refusesFields(t, repeated(n, w), nil, api.ErrArg)
			refusesFields(t, repeated(n, w), repeated(40, 0), api.ErrArg)
			refusesFields(t, repeated(40, w), repeated(n, 0), api.ErrArg)
			refusesParse(t, repeated(n, w), strings.Repeat("\x00", n*w), api.ErrArg)
			refusesParse(t, repeated(n, w), "", api.ErrArg)
			refusesParse(t, repeated(n, w), strings.Repeat("\x00", 40*w), api.ErrArg)
		}
	}
}

// 3.2: fewer or more numbers than widths: ErrArg, though one doesn't fit besides.
func TestFieldsOfOtherCount(t *testing.T) {
	for _, n := range []int{0, 1, 2, 3, 39, 40} {
		for _, other := range []int{0, 1, 2, 3, 4, 39, 40, 41, 1000} {
			if other == n {
				continue
			}
			refusesFields(t, repeated(n, 1), repeated(other, 0), api.ErrArg)
			refusesFields(t, repeated(n, 1), repeated(other, 256), api.ErrArg)
			refusesFields(t, repeated(n, 4), repeated(other, -1), api.ErrArg)
		}
	}
	refusesFields(t, []int{2}, nil, api.ErrArg)
	refusesFields(t, []int{2}, []int{}, api.ErrArg)
	refusesFields(t, nil, []int{1}, api.ErrArg)
	refusesFields(t, []int{}, []int{1}, api.ErrArg)
}

// 3.2: ErrSize, wherever the one stands that doesn't fit.
func TestFieldsOfWrongNumbers(t *testing.T) {
	for w := 1; w <= 4; w++ {
		for _, n := range append([]int{limits[w], limits[w] + 1, 2 * limits[w]}, noNumbers...) {
			refusesFields(t, []int{w}, []int{n}, api.ErrSize)
			refusesFields(t, []int{w, 1, 4}, []int{n, 0, 0}, api.ErrSize)
			refusesFields(t, []int{1, w, 4}, []int{0, n, 0}, api.ErrSize)
			refusesFields(t, []int{1, 4, w}, []int{0, 0, n}, api.ErrSize)
			refusesFields(t, []int{w, w}, []int{n, n}, api.ErrSize)
			refusesFields(t, repeated(40, w), append(repeated(39, 0), n), api.ErrSize)
		}
	}
	refusesFields(t, []int{1, 2}, []int{256, 1}, api.ErrSize) // each would fit in the other's width
}

// 3.2: ErrForm of another length: none, one byte fewer, one more, many more.
func TestParseOfOtherLength(t *testing.T) {
	for _, widths := range [][]int{nil, {}, {1}, {2}, {3}, {4}, {1, 2, 3, 4}, {4, 4}, repeated(40, 1), repeated(40, 4)} {
		size := Size(widths)
		for _, n := range []int{0, 1, size - 1, size, size + 1, 2 * size, size + 256, 1000} {
			if n == size || n < 0 {
				continue
			}
			refusesParse(t, widths, strings.Repeat("\x00", n), api.ErrForm)
			refusesParse(t, widths, strings.Repeat("\xff", n), api.ErrForm)
		}
		nums, err := Parse(widths, strings.Repeat("\x00", size))
		if err != nil || !slices.Equal(nums, make([]int, len(widths))) {
			t.Errorf("Parse(%v, zero bytes) = %v, %v", widths, nums, err)
		}
	}
}

// 3.3: each number of one and of two bytes, and many of three and of four, there and back.
func TestNumberThereAndBack(t *testing.T) {
	next := numbers(1)
	for w := 1; w <= 4; w++ {
		nums := edges(w)
		for i := range 1 << 16 {
			nums = append(nums, i%limits[w], next()%limits[w])
		}
		for _, n := range nums {
			s := Put(w, n)
			got, err := Get(s, w)
			if err != nil || got != n || s != bytewise(w, n) {
				t.Fatalf("%d in %d bytes: %q, read as %d, %v", n, w, s, got, err)
			}
			if got, err := Get(s+"\xff\x00", w); err != nil || got != n {
				t.Fatalf("%d in %d bytes, others behind: read as %d, %v", n, w, got, err)
			}
		}
	}
}

// 3.3: fields of all sorts there and back: the bytes are those that Put answers, as many as Size tells.
func TestFieldsThereAndBack(t *testing.T) {
	next := numbers(2)
	for i := range 4000 {
		widths, nums, want := make([]int, i%41), make([]int, i%41), ""
		for j := range widths {
			widths[j] = 1 + next()%4
			nums[j] = next() % limits[widths[j]]
			if l := edges(widths[j]); next()%3 == 0 {
				nums[j] = l[next()%len(l)]
			}
			want += Put(widths[j], nums[j])
		}
		s, err := Fields(widths, nums)
		if err != nil || s != want || len(s) != Size(widths) {
			t.Fatalf("Fields(%v, %v) = %q, %v, want %q", widths, nums, s, err, want)
		}
		got, err := Parse(widths, s)
		if err != nil || !slices.Equal(got, nums) {
			t.Fatalf("Parse(%v, %q) = %v, %v, want %v", widths, s, got, err, nums)
		}
	}
}

// 3.3: bytes of all values, read and laid again, are the same ones.
func TestBytesThereAndBack(t *testing.T) {
	next := numbers(3)
	for i := range 2000 {
		widths := make([]int, i%41)
		for j := range widths {
			widths[j] = 1 + next()%4
		}
		text := make([]byte, Size(widths))
		for j := range text {
			text[j] = byte(next())
		}
		nums, err := Parse(widths, string(text))
		if err != nil || len(nums) != len(widths) {
			t.Fatalf("Parse(%v, %q) = %v, %v", widths, text, nums, err)
		}
		if s, err := Fields(widths, nums); err != nil || s != string(text) {
			t.Fatalf("Fields(%v, %v) = %q, %v, want %q", widths, nums, s, err, text)
		}
	}
}

// DOC.md's rule 4: lists that are handed in aren't changed, spare room included; a list that is handed out is new.
func TestListsAreKeptApart(t *testing.T) {
	wideRoom, numRoom := []int{1, 2, 3, 77, 78}, []int{4, 5, 6, 87, 88}
	widths, nums := wideRoom[:3], numRoom[:3]
	s, err := Fields(widths, nums)
	if err != nil || s != "\x04\x00\x05\x00\x00\x06" {
		t.Fatalf("Fields = %q, %v", s, err)
	}
	one, _ := Parse(widths, s)
	two, _ := Parse(widths, s)
	Size(widths)
	refusesFields(t, widths, []int{4, 5, -1}, api.ErrSize)
	refusesParse(t, widths, s+"x", api.ErrForm)
	one = append(one, 99)
	one[0], one[1], one[2] = 9, 9, 9
	if !slices.Equal(two, []int{4, 5, 6}) {
		t.Errorf("the second answer is %v", two)
	}
	if !slices.Equal(wideRoom, []int{1, 2, 3, 77, 78}) || !slices.Equal(numRoom, []int{4, 5, 6, 87, 88}) {
		t.Errorf("what was handed in is %v, %v", wideRoom, numRoom)
	}
	widths[0], nums[0] = 4, 1<<32-1
	if !slices.Equal(two, []int{4, 5, 6}) || s != "\x04\x00\x05\x00\x00\x06" {
		t.Errorf("the answers are %v, %q", two, s)
	}
}

// DOC.md's rule 6: what was asked before changes no answer.
func TestNothingIsKept(t *testing.T) {
	for range 2 {
		if s := Put(2, 258); s != "\x01\x02" {
			t.Errorf("Put = %q", s)
		}
		if n, err := Get("\x01\x02", 2); n != 258 || err != nil {
			t.Errorf("Get = %d, %v", n, err)
		}
		if s, err := Fields([]int{1, 2}, []int{3, 4}); s != "\x03\x00\x04" || err != nil {
			t.Errorf("Fields = %q, %v", s, err)
		}
		if nums, err := Parse([]int{1, 2}, "\x03\x00\x04"); !slices.Equal(nums, []int{3, 4}) || err != nil {
			t.Errorf("Parse = %v, %v", nums, err)
		}
		Put(4, 1<<32-1)
		Get("", 9)
		Fields([]int{4}, []int{-1})
		Parse([]int{4}, "\xff\xff\xff\xff")
	}
}
