// Package tag is layer 1: see shared/doc/01-tag.md.
package tag

import (
	"errors"
	"strings"

	"dynamo/api"
)

// Tagged is an error with a tag.
type Tagged struct {
	Tag string
	Err error
}

// Error answers its text. It goes down the tags in a loop: were each tag to ask
// the next one, a long chain would copy its text once a tag and use up the stack.
func (t *Tagged) Error() string {
	var text strings.Builder
	for t != nil {
		text.WriteString(t.Tag)
		text.WriteByte('.')
		inner, ok := t.Err.(*Tagged)
		if !ok {
			text.WriteString(textOf(t.Err))
		}
		t = inner
	}
	return text.String()
}

// textOf answers the text of what a tag is laid around. An error of another kind
// may panic when it is asked (a nil pointer to a number does): it has no text.
func textOf(e error) (text string) {
	defer func() { _ = recover() }()
	if e == nil {
		return ""
	}
	return e.Error()
}

// Unwrap answers what the tag is laid around.
func (t *Tagged) Unwrap() error {
	if t == nil {
		return nil
	}
	return t.Err
}

// Tag lays a tag around an error.
func Tag(name string, e error) error {
	if e == nil {
		return nil
	}
	return &Tagged{Tag: name, Err: e}
}

// Num answers the number.
func Num(e error) int {
	if e == nil {
		return 0
	}
	n, ok := first(e)
	if !ok {
		return -1
	}
	return int(n)
}

// first answers the first number in e. Errors of another kind on the way may panic
// when they are asked what they are laid around: no number is found then.
func first(e error) (n api.Errno, ok bool) {
	defer func() { _ = recover() }()
	ok = errors.As(e, &n)
	return n, ok
}

// Same tells whether an error has a number. As in first, what panics on the way has none.
func Same(e error, n api.Errno) (same bool) {
	defer func() { _ = recover() }()
	return errors.Is(e, n)
}

// Tags answers the tags.
func Tags(e error) []string {
	var tags []string
	gather(&tags, e)
	return tags
}

// gather adds the tags in e, the outermost first. It looks where errors.As looks: below
// errors of another kind too, and in each part of one that has several, in their order.
// As in first, it goes no further than an error that panics.
func gather(tags *[]string, e error) {
	defer func() { _ = recover() }()
	for e != nil {
		if t, ok := e.(*Tagged); ok && t != nil {
			*tags = append(*tags, t.Tag)
		}
		if several, ok := e.(interface{ Unwrap() []error }); ok {
			for _, part := range several.Unwrap() {
				gather(tags, part)
			}
			return
		}
		e = errors.Unwrap(e)
	}
}
