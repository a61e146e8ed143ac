// Package saved has how a vault's root becomes another one: several layers do it alike.
package saved

import (
	"hibernacle/api"
	"hibernacle/fresh"
	"hibernacle/root"
)

// Root is the vault whose root is another one, with one more N, if that could be saved;
// else only its store is another one.
func Root(v api.Vault, r api.Root) (api.Vault, api.Errno) {
	next := fresh.Vault(v)
	r = fresh.Root(r)
	r.N = v.Root.N + 1
	var e api.Errno
	next.Store, e = root.Save(v.Store, v.Ring, v.Keys, r)
	if e == api.OK {
		next.Root = r
	}
	return next, e
}
