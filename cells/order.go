package cells

import (
	"slices"

	"concordat/api"
	"concordat/diff3"
)

// unique returns the first occurrence of each key of l.
func unique(l []string) []string {
	known := map[string]struct{}{}
	var out []string
	for _, key := range l {
		if _, is := known[key]; !is {
			known[key] = struct{}{}
			out = append(out, key)
		}
	}
	return out
}

// without returns the keys of l that are not among those that were removed.
func without(l []string, removed map[string]struct{}) []string {
	return slices.DeleteFunc(slices.Clone(l), func(key string) bool {
		_, is := removed[key]
		return is
	})
}

// missing returns the keys of l that at least one of the sides does not have.
func missing(l []string, sides ...[]string) map[string]struct{} {
	out := map[string]struct{}{}
	for _, side := range sides {
		has := map[string]struct{}{}
		for _, key := range side {
			has[key] = struct{}{}
		}
		for _, key := range l {
			if _, is := has[key]; !is {
				out[key] = struct{}{}
			}
		}
	}
	return out
}

// Order merges three lists of keys, and reports whether their orders go
// together.
func Order(o, a, b []string) ([]string, bool) {
	o, a, b = unique(o), unique(a), unique(b)
	switch {
	case slices.Equal(b, o):
		return a, true
	case slices.Equal(a, o):
		return b, true
	}
	removed := missing(o, a, b)
	o, a, b = without(o, removed), without(a, removed), without(b, removed)
	var out []string
	for _, c := range diff3.Parts(o, a, b) {
		left, right := a[c.A.From:c.A.To], b[c.B.From:c.B.To]
		switch {
		case c.Kind == api.Right:
			out = append(out, right...)
		case c.Kind != api.Clash:
			out = append(out, left...)
		case c.O.From < c.O.To:
			return nil, false
		default:
			out = append(out, unique(slices.Concat(left, right))...)
		}
	}
	if len(unique(out)) < len(out) {
		return nil, false
	}
	return out, true
}
