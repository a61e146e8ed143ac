// Package parts has how an object stands on shelves in parts: what is written so is looked after so.
package parts

import (
	"hibernacle/api"
	"hibernacle/hash"
	"hibernacle/num"
	"hibernacle/parity"
)

// Magic is what a part's row begins with.
const Magic = "hibs"

// Of tells, of bytes under a name, the part for each shelf, by its number from 0 on.
func Of(name, data string) func(i int) string {
	sum := hash.Sum(data)
	l := parity.Cut(data)
	return func(i int) string { return row(name, len(data), sum, l[i]) }
}

func row(name string, size int, sum api.Digest, p api.Part) string {
	own := hash.Sum(p.Data)
	return num.Row(Magic, name, num.Dec(int64(size)), num.Dec(int64(p.I)), string(sum[:]), string(own[:]), p.Data)
}
