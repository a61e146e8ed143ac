package fs

import (
	"iter"
	"strings"

	"hibernacle/api"
	"hibernacle/dir"
)

const (
	top      = "/"
	topInode = 1
)

// names hands on a path's names, from the top on.
func names(path string) iter.Seq[string] {
	return func(yield func(string) bool) {
		if path == top {
			return
		}
		for _, name := range strings.Split(path[1:], top) {
			if !yield(name) {
				return
			}
		}
	}
}

// isPath tells whether a text is a path.
func isPath(path string) bool {
	if !strings.HasPrefix(path, top) {
		return false
	}
	n := 0
	for name := range names(path) {
		n++
		if n > api.MaxDepth || !dir.May(name) {
			return false
		}
	}
	return true
}

// parent is the path of the directory in which a path's last name stands, and that name.
func parent(path string) (string, string) {
	i := strings.LastIndex(path, top)
	if i == 0 {
		return top, path[1:]
	}
	return path[:i], path[i+1:]
}
