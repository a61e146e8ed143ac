package root

import (
	"iter"
	"slices"

	"hibernacle/api"
	"hibernacle/fresh"
	"hibernacle/keys"
	"hibernacle/names"
	"hibernacle/num"
	"hibernacle/seal"
	"hibernacle/share"
	"hibernacle/spread"
)

// opened is what a store's last root tells.
type opened struct {
	ring api.Ring
	keys api.Keys
	root api.Root
}

// Load is the last root of a store, its ring, and its keys, which three shares open.
func Load(st api.Store, l []api.Share) (api.Store, api.Ring, api.Keys, api.Root, api.Errno) {
	if _, e := share.Join(l); e != api.OK {
		return fresh.Store(st), api.Ring{}, api.Keys{}, api.Root{}, e
	}
	st, all, e := spread.Names(st, names.RootFront)
	if e != api.OK {
		return st, api.Ring{}, api.Keys{}, api.Root{}, e
	}
	isGone, isClosed := false, false
	for name := range falling(all) {
		var data string
		st, data, e = spread.Vote(st, name)
		isGone = isGone || e == api.ErrGone
		if e != api.OK {
			continue
		}
		x, why := open(name, data, l)
		if why == api.OK {
			// Shelves that lost it have it again; whether they take it is of no account.
			st, _ = spread.Post(st, name, data)
			return st, x.ring, x.keys, x.root, api.OK
		}
		isClosed = isClosed || why == api.ErrKey
	}
	switch {
	case isGone:
		e = api.ErrGone
	case isClosed:
		e = api.ErrKey
	default:
		e = api.ErrNone
	}
	return st, api.Ring{}, api.Keys{}, api.Root{}, e
}

// falling hands on the names of roots' objects, the last one first.
func falling(l []string) iter.Seq[string] {
	return func(yield func(string) bool) {
		for _, name := range slices.Backward(l) {
			if names.IsRoot(name) && !yield(name) {
				return
			}
		}
	}
}

// open is what an object tells; ErrKey, if the shares don't open its ring.
func open(name, data string, l []api.Share) (opened, api.Errno) {
	texts, e := num.Texts(data)
	if e != api.OK || len(texts) != 2 {
		return opened{}, api.ErrForm
	}
	ring, e := keys.Of(texts[0])
	if e != api.OK {
		return opened{}, api.ErrForm
	}
	k, e := keys.Open(ring, l)
	if e != api.OK {
		return opened{}, api.ErrKey
	}
	key, e := keys.Box(k, len(k.All)-1)
	if e != api.OK {
		return opened{}, api.ErrForm
	}
	b, e := seal.Open(key, name, texts[1])
	if e != api.OK {
		return opened{}, api.ErrForm
	}
	r, e := Of(b)
	if e != api.OK || names.Root(r.N) != name {
		return opened{}, api.ErrForm
	}
	return opened{ring: ring, keys: k, root: r}, api.OK
}
