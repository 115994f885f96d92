package merge

import (
	"iter"
	"strings"

	"concordat/api"
	"concordat/cells"
	"concordat/segment"
	"concordat/tree"
)

// keysOf returns the keys of the segments of a file, of which only the last
// one tells to which file it belongs; and whether there is such a file.
func keysOf(l []api.File, path string) ([]string, bool) {
	text, is := tree.Get(l, path)
	if !is {
		return nil, false
	}
	segments, _ := segment.Split(text)
	keys := segment.Keys(segments)
	keys[len(keys)-1] += path
	return keys, true
}

// row holds for a path the keys in each of three trees, and which of them have
// such a file.
type row struct {
	keys  [3][]string
	there [3]bool
}

// rows yields the rows of all paths of three trees, in increasing order.
func rows(o, a, b []api.File) iter.Seq2[string, row] {
	return func(yield func(string, row) bool) {
		for _, path := range tree.Paths(o, a, b) {
			var r row
			for i, l := range [3][]api.File{o, a, b} {
				r.keys[i], r.there[i] = keysOf(l, path)
			}
			if !yield(path, r) {
				return
			}
		}
	}
}

// exists reports whether the merged file exists.
func (r row) exists() bool {
	switch {
	case r.there[1] && r.there[2]:
		return true
	case r.there[1] || r.there[2]:
		return !r.there[0]
	}
	return false
}

// segments returns the segments of three trees, and whether all three can be
// cut into segments.
func segments(o, a, b []api.File) ([3][]api.Segment, bool) {
	var out [3][]api.Segment
	for i, l := range [3][]api.File{o, a, b} {
		s, m := segment.All(l)
		if m.Code != api.OK {
			return out, false
		}
		out[i] = s
	}
	return out, true
}

// Cells merges three trees segment by segment. It returns the files, and the
// conflicts.
func Cells(o, a, b []api.File) ([]api.File, []api.Conflict) {
	l, is := segments(o, a, b)
	if !is {
		return nil, nil
	}
	merged, bad := cells.Texts(l[0], l[1], l[2])
	used := map[string]int{}
	var files []api.File
	for path, r := range rows(o, a, b) {
		order, is := cells.Order(r.keys[0], r.keys[1], r.keys[2])
		if !is {
			bad = append(bad, api.Conflict{Kind: api.InOrder, Key: path})
		}
		text := gathered(merged, order, used)
		switch {
		case r.exists():
			files = append(files, api.File{Path: path, Text: text})
		case text != "":
			bad = append(bad, api.Conflict{Kind: api.InGone, Key: path})
		}
	}
	for _, s := range merged {
		if _, is := used[s.Key]; !is {
			bad = append(bad, api.Conflict{Kind: api.InOrder, Key: s.Key})
		}
	}
	return files, bad
}

// gathered returns the texts of the cells with certain keys that exist and
// were not used before. They are used then.
func gathered(merged []api.Segment, keys []string, used map[string]int) string {
	at := map[string]int{}
	for i, s := range merged {
		at[s.Key] = i
	}
	var out strings.Builder
	for _, key := range keys {
		i, is := at[key]
		if _, again := used[key]; is && !again {
			out.WriteString(merged[i].Text)
			used[key] = i
		}
	}
	return out.String()
}
