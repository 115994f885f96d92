package merge_test

import (
	"slices"

	"concordat/api"
	"concordat/cells"
	"concordat/segment"
	"concordat/tree"
)

// cellsOf is what P31.3 says, word by word.
func cellsOf(o, a, b []api.File) ([]api.File, []api.Conflict) {
	l, _ := segment.All(o)
	m, _ := segment.All(a)
	n, _ := segment.All(b)
	merged, bad := cells.Texts(l, m, n)
	row := func(l []api.File, path string) []string {
		text, is := tree.Get(l, path)
		if !is {
			return nil
		}
		s, _ := segment.Split(text)
		keys := segment.Keys(s)
		for i, key := range keys {
			if key == "$" {
				keys[i] = "$" + path
			}
		}
		return keys
	}
	has := func(l []api.File, path string) bool { _, is := tree.Get(l, path); return is }
	var used []string
	var files []api.File
	for _, path := range tree.Paths(o, a, b) {
		text := ""
		order, is := cells.Order(row(o, path), row(a, path), row(b, path))
		if !is {
			bad = append(bad, api.Conflict{Kind: api.InOrder, Key: path})
		}
		for _, key := range order {
			if s, is := segment.Get(merged, key); is && !slices.Contains(used, key) {
				text += s
				used = append(used, key)
			}
		}
		inA, inB, inO := has(a, path), has(b, path), has(o, path)
		if inA && inB || inA != inB && !inO {
			files = append(files, api.File{Path: path, Text: text})
		} else if text != "" {
			bad = append(bad, api.Conflict{Kind: api.InGone, Key: path})
		}
	}
	for _, s := range merged {
		if !slices.Contains(used, s.Key) {
			bad = append(bad, api.Conflict{Kind: api.InOrder, Key: s.Key})
		}
	}
	return files, bad
}
