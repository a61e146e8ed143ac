// Package fresh has copies of values that share no list with what they were made of,
// as whatever is handed in, and answered, is a value of its own.
package fresh

import (
	"slices"

	"hibernacle/api"
)

// Drive is a drive with lists of its own.
func Drive(d api.Drive) api.Drive {
	d.Blocks = slices.Clone(d.Blocks)
	d.Pending = slices.Clone(d.Pending)
	return d
}

// Machine is a machine with lists of its own.
func Machine(m api.Machine) api.Machine {
	m.Frames = slices.Clone(m.Frames)
	m.Procs = slices.Clone(m.Procs)
	m.Pipes = slices.Clone(m.Pipes)
	m.Drive = Drive(m.Drive)
	m.Dirty = slices.Clone(m.Dirty)
	return m
}

// Shelf is a shelf with lists of its own.
func Shelf(s api.Shelf) api.Shelf {
	return api.Shelf{Objs: slices.Clone(s.Objs), Fates: slices.Clone(s.Fates)}
}

// Store is a store with lists of its own.
func Store(st api.Store) api.Store {
	for i, s := range st.Shelves {
		st.Shelves[i] = Shelf(s)
	}
	return st
}

// Root is a root with lists of its own.
func Root(r api.Root) api.Root {
	r.Refs = slices.Clone(r.Refs)
	r.Packs = slices.Clone(r.Packs)
	for i, p := range r.Packs {
		r.Packs[i].Places = slices.Clone(p.Places)
	}
	r.Chans = slices.Clone(r.Chans)
	return r
}

// Vault is a vault with lists of its own.
func Vault(v api.Vault) api.Vault {
	return api.Vault{
		Store: Store(v.Store), Ring: api.Ring{Epochs: slices.Clone(v.Ring.Epochs)}, Keys: api.Keys{All: slices.Clone(v.Keys.All)},
		Root: Root(v.Root), Pending: slices.Clone(v.Pending), Pins: slices.Clone(v.Pins),
	}
}

// Shot is a shot with lists of its own.
func Shot(s api.Shot) api.Shot {
	s.Frames = slices.Clone(s.Frames)
	s.Blocks = slices.Clone(s.Blocks)
	return s
}

// Agent is an agent with lists of its own.
func Agent(a api.Agent) api.Agent {
	a.Shot = Shot(a.Shot)
	for i := range a.Todo {
		a.Todo[i] = slices.Clone(a.Todo[i])
		a.Snap.Chunks[i] = slices.Clone(a.Snap.Chunks[i])
	}
	a.Known = slices.Clone(a.Known)
	return a
}
