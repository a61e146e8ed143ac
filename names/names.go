// Package names has rules for names that several layers lean on.
package names

import (
	"strings"

	"hibernacle/api"
	"hibernacle/num"
)

const (
	// RootFront is what the names of roots' objects begin with.
	RootFront = "root/"
	// PackFront is what the names of packs begin with.
	PackFront = "pack/"

	rootDigits = 8
)

// IsMachine tells whether a text is a machine's name.
func IsMachine(name string) bool {
	other := func(c rune) bool { return !(c >= 'a' && c <= 'z' || c >= '0' && c <= '9' || c == '.' || c == '-') }
	return len(name) >= 1 && len(name) <= api.MaxName && strings.IndexFunc(name, other) < 0
}

// Root is the name of the object of a root with this number.
func Root(n int) string {
	digits := num.Dec(int64(n))
	return RootFront + strings.Repeat("0", max(rootDigits-len(digits), 0)) + digits
}

// IsRoot tells whether a text is the name of a root's object.
func IsRoot(name string) bool {
	digits, ok := strings.CutPrefix(name, RootFront)
	other := func(c rune) bool { return c < '0' || c > '9' }
	return ok && len(digits) == rootDigits && strings.IndexFunc(digits, other) < 0
}
