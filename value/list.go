package value

import (
	"strings"

	"gavotte/api"
)

// itemsRight tells whether these can be a tuple's items: right ones, as many as
// may be, where at most so many tuples, this one among them, stand within one another.
func itemsRight[T any](l []T, tuples int, right func(item T, tuples int) bool) bool {
	if tuples == 0 || len(l) == 0 || len(l) > api.MaxItems {
		return false
	}
	for _, item := range l {
		if !right(item, tuples-1) {
			return false
		}
	}
	return true
}

// compare holds two lists against each other, by their first items that aren't level; a beginning is ahead.
func compare[T any](a, b []T, by func(a, b T) int) int {
	for i := range min(len(a), len(b)) {
		if c := by(a[i], b[i]); c != 0 {
			return c
		}
	}
	switch {
	case len(a) < len(b):
		return -1
	case len(a) > len(b):
		return 1
	}
	return 0
}

// each answers a new list of what the items become.
func each[T, U any](l []T, become func(T) U) []U {
	if len(l) == 0 {
		return nil
	}
	out := make([]U, len(l))
	for i, item := range l {
		out[i] = become(item)
	}
	return out
}

// brackets is a tuple's text, of the texts of its items.
func brackets[T any](l []T, text func(T) string) string {
	inner := strings.Join(each(l, text), ", ")
	if len(l) == 1 {
		// Without the comma it would be the item in brackets, as expressions have it.
		inner += ","
	}
	return "(" + inner + ")"
}
