// Package lines splits strings into lines and converts between byte offsets
// and positions by line and column.
package lines

import (
	"iter"
	"strings"
)

// each yields the lines of text in order, each with the newline that ends it.
func each(text string) iter.Seq[string] {
	return func(yield func(string) bool) {
		from := 0
		for i := range len(text) {
			if text[i] != '\n' {
				continue
			}
			if !yield(text[from : i+1]) {
				return
			}
			from = i + 1
		}
		if from < len(text) {
			yield(text[from:])
		}
	}
}

// Split returns the lines of text, in order.
func Split(text string) []string {
	var l []string
	for line := range each(text) {
		l = append(l, line)
	}
	return l
}

// Join returns the concatenation of all elements of l.
func Join(l []string) string { return strings.Join(l, "") }

// Count returns the number of lines of text.
func Count(text string) int {
	n := 0
	for range each(text) {
		n++
	}
	return n
}

// Place returns the line and the column of the byte at offset at, both counted
// from 1. The end of text has a place, too; every other offset has 0, 0.
func Place(text string, at int) (int, int) {
	if at < 0 || at > len(text) {
		return 0, 0
	}
	line, column := 1, 1
	for i := range at {
		column++
		if text[i] == '\n' {
			line++
			column = 1
		}
	}
	return line, column
}

// Start returns the offset at which a line, counted from 1, begins, and
// whether there is such a line. The empty line that would begin at the end of
// text counts.
func Start(text string, line int) (int, bool) {
	at, n := 0, 1
	for s := range each(text) {
		if n == line {
			return at, true
		}
		at += len(s)
		n++
	}
	if n == line && Whole(text) == text {
		return at, true
	}
	return 0, false
}

// Whole returns text with a newline appended, unless it is empty or already
// ends with one.
func Whole(text string) string {
	if text == "" || strings.HasSuffix(text, "\n") {
		return text
	}
	return text + "\n"
}
