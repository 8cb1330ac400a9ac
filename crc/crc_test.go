package crc

import (
	"strings"
	"testing"
)

// lengths are those of the texts that are held against the sum reckoned bit by bit.
var lengths = []int{0, 1, 2, 3, 4, 5, 7, 8, 9, 15, 16, 17, 31, 33, 63, 64, 65, 120, 124, 127, 128, 129, 255, 256, 257, 1000, 4096, 65537}

// bitwise reckons the sum as the chapter says it, in its own steps.
func bitwise(s string) uint32 {
	r := uint64(1<<32 - 1)
	for i := range len(s) {
		r ^= uint64(s[i])
		for range 8 {
			odd := r%2 == 1
			r /= 2
			if odd {
				r ^= 0xedb88320
			}
		}
	}
	return uint32(r ^ (1<<32 - 1))
}

// numbers answers a function that makes numbers, always the same ones of one seed.
func numbers(seed uint64) func() uint32 {
	return func() uint32 {
		seed = seed*6364136223846793005 + 1442695040888963407
		return uint32(seed >> 32)
	}
}

// mixed answers a text of n bytes of all values.
func mixed(seed uint64, n int) string {
	next := numbers(seed)
	text := make([]byte, n)
	for i := range text {
		text[i] = byte(next())
	}
	return string(text)
}

// changed answers s with the bits of pattern made one with those from the bit at on
// (the lowest bit of a byte is its first one); ok, if all of them are bits of s.
func changed(s string, at int, pattern uint32) (text string, ok bool) {
	b := []byte(s)
	for i := range 32 {
		if pattern>>i&1 == 0 {
			continue
		}
		if at+i >= 8*len(b) {
			return "", false
		}
		b[(at+i)/8] ^= 1 << ((at + i) % 8)
	}
	return string(b), true
}

// withSum answers the text of four bytes that has that sum: the steps undone, from the last one on.
func withSum(sum uint32) string {
	r := sum ^ (1<<32 - 1)
	for range 32 {
		if r>>31 == 1 {
			r = (r^0xedb88320)<<1 | 1
		} else {
			r <<= 1
		}
	}
	r ^= 1<<32 - 1
	return string([]byte{byte(r), byte(r >> 8), byte(r >> 16), byte(r >> 24)})
}

// 2.1: the chapter's example, and other sums that are widely known.
func TestSumOfKnownTexts(t *testing.T) {
	for _, c := range []struct {
		text string
		want uint32
	}{
		{"123456789", 0xcbf43926},
		{"", 0},
		{"a", 0xe8b7be43},
		{"abc", 0x352441c2},
		{"The quick brown fox jumps over the lazy dog", 0x414fa339},
		{"\x00", 0xd202ef8d},
		{"\xff", 0xff000000},
		{"\xff\xff\xff\xff", 0xffffffff},
		{strings.Repeat("\x00", 32), 0x190a55ad},
		{strings.Repeat("\xff", 32), 0xff6cab0b},
	} {
		if got := Sum(c.text); got != c.want {
			t.Errorf("Sum(%q) = %08x, want %08x", c.text, got, c.want)
		}
		if got := More(0, c.text); got != c.want {
			t.Errorf("More(0, %q) = %08x, want %08x", c.text, got, c.want)
		}
	}
}

// 2.1: a text of one byte, of every value, alone and behind another byte of every value.
func TestSumOfEachByte(t *testing.T) {
	for b := range 256 {
		one := string([]byte{byte(b)})
		if got, want := Sum(one), bitwise(one); got != want {
			t.Errorf("Sum(%q) = %08x, want %08x", one, got, want)
		}
		for c := range 256 {
			two := string([]byte{byte(b), byte(c)})
			if got, want := Sum(two), bitwise(two); got != want {
				t.Errorf("Sum(%q) = %08x, want %08x", two, got, want)
			}
		}
	}
}

// 2.1: texts of many lengths, of one byte again and again, of bytes of all values, and of no UTF-8.
func TestSumOfManyLengths(t *testing.T) {
	for _, n := range lengths {
		texts := []string{mixed(1, n), mixed(2, n)}
		for _, b := range []string{"\x00", "\x01", "\x0f", "\x10", "\x7f", "\x80", "\xf0", "\xff", "a"} {
			texts = append(texts, strings.Repeat(b, n))
		}
		for _, s := range texts {
			if got, want := Sum(s), bitwise(s); got != want {
				t.Errorf("Sum of %d bytes, %.9q = %08x, want %08x", n, s, got, want)
			}
		}
	}
	for n := range 300 {
		s := mixed(uint64(n), n)
		if got, want := Sum(s), bitwise(s); got != want {
			t.Errorf("Sum(%q) = %08x, want %08x", s, got, want)
		}
	}
}

// 2.1: zero bytes count, ahead of a text and behind it.
func TestZeroBytesCount(t *testing.T) {
	met := map[uint32]string{}
	for n := range 64 {
		for _, s := range []string{strings.Repeat("\x00", n) + "a", "a" + strings.Repeat("\x00", n), strings.Repeat("\x00", n)} {
			if was, ok := met[Sum(s)]; ok && was != s {
				t.Errorf("%q and %q: the sum %08x", was, s, Sum(s))
			}
			met[Sum(s)] = s
		}
	}
}

// 2.1: a text cut in two at every place.
func TestMoreAtEveryCut(t *testing.T) {
	for _, s := range []string{"", "a", "123456789", mixed(3, 128), mixed(4, 257), strings.Repeat("\x00", 40), strings.Repeat("\xff", 40)} {
		want := bitwise(s)
		for cut := range len(s) + 1 {
			if got := More(Sum(s[:cut]), s[cut:]); got != want {
				t.Errorf("%.9q cut at %d: %08x, want %08x", s, cut, got, want)
			}
		}
	}
}

// 2.1: More several times over: a byte each, parts of many lengths, empty parts between.
func TestMoreSeveralTimes(t *testing.T) {
	s := mixed(5, 500)
	want := bitwise(s)
	for _, part := range []int{1, 2, 3, 7, 16, 120, 499, 500} {
		sum := Sum("")
		for at := 0; at < len(s); at += part {
			sum = More(More(sum, s[at:min(at+part, len(s))]), "")
		}
		if sum != want {
			t.Errorf("in parts of %d: %08x, want %08x", part, sum, want)
		}
	}
	next := numbers(6)
	for range 200 {
		sum, at := uint32(0), 0
		for at < len(s) {
			end := min(at+int(next()%40), len(s))
			sum, at = More(sum, s[at:end]), end
		}
		if sum != want {
			t.Fatalf("in parts of any length: %08x, want %08x", sum, want)
		}
	}
}

// 2.1: the empty text behind a text changes nothing, whatever the sum.
func TestMoreOfNothing(t *testing.T) {
	next := numbers(7)
	for i := range 1000 {
		sum := next()
		if i < 32 {
			sum = 1 << i
		}
		for _, sum := range []uint32{sum, ^sum, 0, 1<<32 - 1} {
			if got := More(sum, ""); got != sum {
				t.Errorf("More(%08x, nothing) = %08x", sum, got)
			}
		}
	}
}

// 2.1: each number is the sum of a text of four bytes: More goes on from it as behind that text.
func TestMoreOfAnySum(t *testing.T) {
	next := numbers(8)
	sums := []uint32{0, 1, 15, 16, 255, 1 << 31, 1<<31 - 1, 1<<32 - 2, 1<<32 - 1, 0xedb88320, 0xcbf43926}
	for range 500 {
		sums = append(sums, next())
	}
	for i, sum := range sums {
		head := withSum(sum)
		if got := Sum(head); got != sum {
			t.Fatalf("Sum(%q) = %08x, want %08x", head, got, sum)
		}
		for _, tail := range []string{"", "\x00", "\xff", "123456789", mixed(uint64(i), i%70)} {
			if got, want := More(sum, tail), bitwise(head+tail); got != want {
				t.Errorf("More(%08x, %q) = %08x, want %08x", sum, tail, got, want)
			}
		}
	}
}

// 2.1: what was reckoned before changes no answer (DOC.md, rule 6).
func TestSumKeepsNothing(t *testing.T) {
	for _, s := range []string{"", "a", "123456789", mixed(9, 128)} {
		want := Sum(s)
		Sum(mixed(10, 77))
		More(0xdeadbeef, "other")
		if got := Sum(s); got != want || got != bitwise(s) {
			t.Errorf("Sum(%.9q) = %08x, then %08x", s, want, got)
		}
	}
}

// 2.2: all patterns of up to 11 unlike bits, at every place of a text.
func TestFewBitsUnlike(t *testing.T) {
	for _, s := range []string{"\x00", "\xff", "a", mixed(11, 2), mixed(12, 16), strings.Repeat("\x00", 16), strings.Repeat("\xff", 16)} {
		was := Sum(s)
		for at := range 8 * len(s) {
			for pattern := uint32(1); pattern < 1<<11; pattern += 2 {
				if other, ok := changed(s, at, pattern); ok && Sum(other) == was {
					t.Fatalf("%q and %q: the sum %08x", s, other, was)
				}
			}
		}
	}
}

// 2.2: longer patterns, of every width up to 32 bits, at every place of a text.
func TestManyBitsUnlike(t *testing.T) {
	next := numbers(13)
	for _, s := range []string{mixed(14, 4), mixed(15, 5), mixed(16, 128), strings.Repeat("\x00", 128)} {
		was := Sum(s)
		for at := range 8 * len(s) {
			for width := 1; width <= 32; width++ {
				ends := uint32(1) | 1<<(width-1)
				inner := uint32(1)<<(width-1) - 1
				for _, pattern := range []uint32{ends, ends | inner, ends | next()&inner, ends | next()&inner} {
					if other, ok := changed(s, at, pattern); ok && Sum(other) == was {
						t.Fatalf("%d bits %08x from %d on: the sum %08x again", width, pattern, at, was)
					}
				}
			}
		}
	}
}

// 2.2: two texts that are both changed at one place are unlike there, too.
func TestTwoChangesUnlike(t *testing.T) {
	next := numbers(17)
	s := mixed(18, 128)
	for at := range 8*len(s) - 31 {
		met := map[uint32]uint32{}
		for range 50 {
			pattern := next()
			other, _ := changed(s, at, pattern)
			if was, ok := met[Sum(other)]; ok && was != pattern {
				t.Fatalf("%08x and %08x from %d on: the sum %08x", was, pattern, at, Sum(other))
			}
			met[Sum(other)] = pattern
		}
	}
}

// 2.2: no pattern is left out. What a pattern changes of the sum is what its bits change, made one
// (the second loop); if of no 32 bits, one behind the other, any one's change comes of the others'
// (the first loop), no pattern of them changes nothing.
func TestAllPatternsUnlike(t *testing.T) {
	next := numbers(19)
	for _, s := range []string{mixed(20, 4), mixed(21, 9), mixed(22, 128)} {
		was := Sum(s)
		for at := range 8*len(s) - 31 {
			var lead [32]uint32
			for i := range 32 {
				other, _ := changed(s, at, 1<<i)
				if !leads(&lead, Sum(other)^was) {
					t.Fatalf("the bits from %d on: that behind %d is made of the others", at, i)
				}
			}
			for range 20 {
				pattern, want := next(), was
				for i := range 32 {
					if pattern>>i&1 == 1 {
						other, _ := changed(s, at, 1<<i)
						want ^= Sum(other) ^ was
					}
				}
				if other, _ := changed(s, at, pattern); Sum(other) != want {
					t.Fatalf("%08x from %d on: the sum %08x, want %08x", pattern, at, Sum(other), want)
				}
			}
		}
	}
}

// leads takes n into lead, by its highest bit that none in lead has; false, if n is made of those in it.
func leads(lead *[32]uint32, n uint32) bool {
	for i := 31; i >= 0; i-- {
		if n>>i&1 == 0 {
			continue
		}
		if lead[i] == 0 {
			lead[i] = n
			return true
		}
		n ^= lead[i]
	}
	return false
}
