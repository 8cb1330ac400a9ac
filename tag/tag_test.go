package tag

import (
	"errors"
	"slices"
	"strings"
	"testing"

	"dynamo/api"
)

// wrap is an error of another kind that is laid around one; a nil one panics, whatever it is asked.
type wrap struct{ inner error }

func (w *wrap) Error() string { return "wrap:" + w.inner.Error() }
func (w *wrap) Unwrap() error { return w.inner }

// list is an error that can't be compared.
type list []int

func (l list) Error() string { return "list" }

// numbers are the errors that DOC.md names, with their numbers.
var numbers = []struct {
	err  api.Errno
	num  int
	text string
}{
	{api.ErrArg, 1, "fault 01"}, {api.ErrForm, 2, "fault 02"}, {api.ErrSum, 3, "fault 03"},
	{api.ErrNone, 4, "fault 04"}, {api.ErrTwice, 5, "fault 05"}, {api.ErrSpace, 6, "fault 06"},
	{api.ErrDown, 7, "fault 07"}, {api.ErrSize, 8, "fault 08"}, {api.ErrState, 9, "fault 09"},
	{api.ErrBusy, 10, "fault 10"}, {api.ErrLow, 11, "fault 11"},
}

// samples are errors of all sorts, the first of them none.
func samples() []error {
	l := []error{
		nil, errors.New("odd"), (*Tagged)(nil), &Tagged{}, &Tagged{Tag: "x"}, list{1},
		&wrap{api.ErrBusy}, &wrap{errors.New("odd")}, (*wrap)(nil), (*api.Errno)(nil),
		api.Errno(0), api.Errno(-1), api.Errno(-7), api.Errno(12), api.Errno(1000),
		errors.Join(errors.New("odd"), api.ErrSum, api.ErrDown),
	}
	for _, n := range numbers {
		l = append(l, n.err, Tag("x", n.err))
	}
	return l
}

// chain answers an error with that many tags "a" around it.
func chain(n int, e error) error {
	for range n {
		e = Tag("a", e)
	}
	return e
}

// 1.1: the tag and what it is laid around are kept as they were handed in.
func TestTagLaysAroundAnError(t *testing.T) {
	odd := errors.New("odd")
	for _, name := range []string{"disk", "", ".", "a.b", "\x00\xff", "täg"} {
		for _, inner := range []error{api.ErrDown, odd, Tag("x", odd), (*Tagged)(nil)} {
			e, ok := Tag(name, inner).(*Tagged)
			if !ok || e == nil || e.Tag != name || e.Err != inner || e.Unwrap() != inner || errors.Unwrap(e) != inner {
				t.Errorf("Tag(%q, %#v) = %#v", name, inner, e)
			}
		}
	}
}

// 1.1: nil of nil, an error that can be held against nil.
func TestTagOfNil(t *testing.T) {
	for _, name := range []string{"disk", ""} {
		if e := Tag(name, nil); e != nil {
			t.Errorf("Tag(%q, nil) = %#v", name, e)
		}
		if e := Tag("x", Tag(name, nil)); e != nil {
			t.Errorf("Tag(x, Tag(%q, nil)) = %#v", name, e)
		}
	}
}

// 1.1: each call makes an error of its own.
func TestTagIsNew(t *testing.T) {
	a, b := Tag("a", api.ErrDown).(*Tagged), Tag("a", api.ErrDown).(*Tagged)
	a.Tag, a.Err = "b", api.ErrSum
	if a == b || b.Tag != "a" || Num(b) != 7 {
		t.Errorf("the second is %#v", b)
	}
}

// 1.1: the text.
func TestText(t *testing.T) {
	odd := errors.New("odd")
	for _, c := range []struct {
		err  error
		want string
	}{
		{Tag("disk", api.ErrDown), "disk.fault 07"},
		{Tag("disk", api.ErrLow), "disk.fault 11"},
		{Tag("disk", api.Errno(100)), "disk.fault"},
		{Tag("tree", Tag("disk", api.ErrDown)), "tree.disk.fault 07"},
		{Tag("a", Tag("b", Tag("c", odd))), "a.b.c.odd"},
		{Tag("", api.ErrArg), ".fault 01"},
		{Tag("", Tag("", odd)), "..odd"},
		{Tag("a", errors.New("")), "a."},
		{Tag("a.b", odd), "a.b.odd"},
		{Tag("a", &wrap{Tag("b", odd)}), "a.wrap:b.odd"},
		{&Tagged{Tag: "x"}, "x."},
		{&Tagged{}, "."},
		{Tag("y", &Tagged{Tag: "x"}), "y.x."},
		{(*Tagged)(nil), ""},
		{Tag("x", (*Tagged)(nil)), "x."},
		{Tag("y", Tag("x", (*Tagged)(nil))), "y.x."},
	} {
		if got := c.err.Error(); got != c.want {
			t.Errorf("%#v: text %q, want %q", c.err, got, c.want)
		}
	}
}

// 1.1: Unwrap of nothing.
func TestUnwrapOfNil(t *testing.T) {
	var none *Tagged
	if e := none.Unwrap(); e != nil {
		t.Errorf("Unwrap of a nil one = %#v", e)
	}
	if e := (&Tagged{Tag: "x"}).Unwrap(); e != nil {
		t.Errorf("Unwrap of one around nil = %#v", e)
	}
}

// 1.2: the numbers that DOC.md names.
func TestNumOfNamed(t *testing.T) {
	for _, n := range numbers {
		for _, e := range []error{n.err, Tag("a", n.err), Tag("b", Tag("", n.err)), &wrap{n.err}} {
			if Num(e) != n.num || !Same(e, n.err) {
				t.Errorf("%#v: Num %d, want %d; Same %v", e, Num(e), n.num, Same(e, n.err))
			}
		}
		if Tag("", n.err).Error() != "."+n.text {
			t.Errorf("%d: text %q, want %q", n.num, Tag("", n.err), "."+n.text)
		}
	}
}

// 1.2: nil, errors of another kind, and numbers that DOC.md doesn't name.
func TestNum(t *testing.T) {
	odd := errors.New("odd")
	number := api.ErrDown
	for _, c := range []struct {
		err  error
		want int
	}{
		{nil, 0},
		{Tag("x", nil), 0},
		{odd, -1},
		{Tag("x", odd), -1},
		{Tag("y", Tag("x", odd)), -1},
		{&wrap{odd}, -1},
		{list{1}, -1},
		{Tag("x", list{1}), -1},
		{errors.New("fault 07"), -1},
		{&number, -1},
		{(*Tagged)(nil), -1},
		{Tag("x", (*Tagged)(nil)), -1},
		{&Tagged{}, -1},
		{&Tagged{Tag: "x"}, -1},
		{Tag("y", &Tagged{Tag: "x"}), -1},
		{api.Errno(0), 0},
		{Tag("x", api.Errno(0)), 0},
		{api.Errno(-1), -1},
		{Tag("x", api.Errno(-7)), -7},
		{api.Errno(12), 12},
		{Tag("x", api.Errno(1<<40)), 1 << 40},
		{Tag("x", &wrap{Tag("y", api.ErrLow)}), 11},
		{errors.Join(odd, Tag("x", api.ErrSum), api.ErrDown), 3},
	} {
		if got := Num(c.err); got != c.want {
			t.Errorf("Num(%#v) = %d, want %d", c.err, got, c.want)
		}
	}
}

// 1.2: Same holds for the number that an error has, and for no other one.
func TestSame(t *testing.T) {
	for _, n := range numbers {
		for _, other := range numbers {
			for _, e := range []error{n.err, Tag("x", n.err), Tag("y", Tag("x", n.err))} {
				if Same(e, other.err) != (n.num == other.num) {
					t.Errorf("Same(%#v, %d) = %v", e, other.num, Same(e, other.err))
				}
			}
		}
	}
	for _, n := range []api.Errno{-7, -1, 0, 12, 1000} {
		if !Same(n, n) || !Same(Tag("x", n), n) || Same(Tag("x", n), n+1) {
			t.Errorf("Same of %d", int(n))
		}
	}
}

// 1.2: an error that has no number is none, not even 0 and -1, which Num answers for such.
func TestSameOfNoNumber(t *testing.T) {
	for _, e := range []error{
		nil, errors.New("odd"), Tag("x", errors.New("odd")), errors.New("fault 07"), list{1}, Tag("x", list{1}),
		(*Tagged)(nil), &Tagged{Tag: "x"}, Tag("x", (*Tagged)(nil)),
	} {
		for n := api.Errno(-1); n <= 12; n++ {
			if Same(e, n) {
				t.Errorf("Same(%#v, %d)", e, int(n))
			}
		}
	}
}

// 1.2: of several numbers the first is Num's, and each is one that the error is laid around.
func TestSeveralNumbers(t *testing.T) {
	e := Tag("x", errors.Join(api.ErrSum, Tag("y", api.ErrDown)))
	if Num(e) != 3 || !Same(e, api.ErrSum) || !Same(e, api.ErrDown) || Same(e, api.ErrArg) {
		t.Errorf("Num %d, Same %v %v %v", Num(e), Same(e, api.ErrSum), Same(e, api.ErrDown), Same(e, api.ErrArg))
	}
}

// 1.2: the tags.
func TestTags(t *testing.T) {
	odd := errors.New("a.odd")
	for _, c := range []struct {
		err  error
		want []string
	}{
		{nil, nil},
		{api.ErrDown, nil},
		{odd, nil},
		{(*Tagged)(nil), nil},
		{&wrap{odd}, nil},
		{Tag("x", nil), nil},
		{Tag("disk", api.ErrDown), []string{"disk"}},
		{Tag("tree", Tag("disk", api.ErrDown)), []string{"tree", "disk"}},
		{Tag("c", Tag("b", Tag("a", odd))), []string{"c", "b", "a"}},
		{Tag("a", Tag("a", odd)), []string{"a", "a"}},
		{Tag("", odd), []string{""}},
		{Tag("", Tag("a.b", Tag("", odd))), []string{"", "a.b", ""}},
		{&Tagged{Tag: "x"}, []string{"x"}},
		{Tag("y", &Tagged{Tag: "x"}), []string{"y", "x"}},
		{Tag("x", (*Tagged)(nil)), []string{"x"}},
		{Tag("b", &wrap{Tag("a", odd)}), []string{"b", "a"}},
		{&wrap{Tag("a", api.ErrDown)}, []string{"a"}},
		{Tag("c", errors.Join(Tag("b", odd), odd, Tag("a", api.ErrDown))), []string{"c", "b", "a"}},
	} {
		if got := Tags(c.err); !slices.Equal(got, c.want) {
			t.Errorf("Tags(%#v) = %q, want %q", c.err, got, c.want)
		}
	}
}

// 1.2, and DOC.md's rule 4: each list is new memory, spare room included.
func TestTagsAreNew(t *testing.T) {
	e := Tag("c", Tag("b", Tag("a", api.ErrDown)))
	one, two := Tags(e), Tags(e)
	one = append(one, "d")
	one[0] = "x"
	if !slices.Equal(two, []string{"c", "b", "a"}) || !slices.Equal(Tags(e), two) || e.Error() != "c.b.a.fault 07" {
		t.Errorf("%q, %q, %q", two, Tags(e), e.Error())
	}
}

// 1.3: a tag changes no number; it is laid around the tags that there are.
func TestTagChangesNoNumber(t *testing.T) {
	for _, e := range samples() {
		num, tags := Num(e), Tags(e)
		for _, name := range []string{"x", "", "fault 07"} {
			tagged := Tag(name, e)
			if Num(tagged) != num || Num(Tag("y", tagged)) != num || Num(e) != num {
				t.Errorf("Num(Tag(%q, %#v)) = %d, want %d", name, e, Num(tagged), num)
			}
			for n := api.Errno(-8); n <= 13; n++ {
				if Same(tagged, n) != Same(e, n) {
					t.Errorf("Same(Tag(%q, %#v), %d) = %v", name, e, int(n), Same(tagged, n))
				}
			}
			if e != nil && !slices.Equal(Tags(tagged), append([]string{name}, tags...)) {
				t.Errorf("Tags(Tag(%q, %#v)) = %q", name, e, Tags(tagged))
			}
		}
	}
}

// DOC.md's rule 1: errors of another kind that panic when they are asked don't make a call panic.
func TestErrorsThatPanic(t *testing.T) {
	for _, e := range []error{(*api.Errno)(nil), (*wrap)(nil), &wrap{(*wrap)(nil)}} {
		tagged := Tag("b", Tag("a", e))
		if got := tagged.Error(); got != "b.a." {
			t.Errorf("%T: text %q", e, got)
		}
		if Num(e) != -1 || Num(tagged) != -1 || Same(tagged, 0) || Same(tagged, api.ErrArg) {
			t.Errorf("%T: Num %d, %d", e, Num(e), Num(tagged))
		}
		if got := Tags(tagged); !slices.Equal(got, []string{"b", "a"}) {
			t.Errorf("%T: Tags %q", e, got)
		}
	}
}

// DOC.md's rule 1: a long chain of tags neither takes the stack nor all the time.
func TestLongChain(t *testing.T) {
	const n = 1_000_000
	e := chain(n, api.ErrDown)
	if Num(e) != 7 || !Same(e, api.ErrDown) || len(Tags(e)) != n {
		t.Errorf("Num %d, %d tags", Num(e), len(Tags(e)))
	}
	if got := e.Error(); got != strings.Repeat("a.", n)+"fault 07" {
		t.Errorf("text of %d bytes", len(got))
	}
}
