package fresh

import (
	"testing"

	"hibernacle/api"
)

// R3: what is answered shares nothing with what was handed in.
func TestMachine(t *testing.T) {
	m := api.Machine{
		Clock: 7, Frames: []string{"a"}, Procs: []api.Proc{{Pid: 1}}, Pipes: []api.Pipe{{Id: 1}}, Dirty: []api.Write{{Block: 1}},
		Drive: api.Drive{Blocks: []string{"b"}, Pending: []api.Write{{Block: 2}}, Left: 3},
	}
	c := Machine(m)
	c.Frames[0], c.Procs[0].Pid, c.Pipes[0].Id, c.Dirty[0].Block = "x", 9, 9, 9
	c.Drive.Blocks[0], c.Drive.Pending[0].Block = "x", 9
	if m.Frames[0] != "a" || m.Procs[0].Pid != 1 || m.Pipes[0].Id != 1 || m.Dirty[0].Block != 1 || m.Drive.Blocks[0] != "b" || m.Drive.Pending[0].Block != 2 {
		t.Error("shared")
	}
	if c.Clock != 7 || c.Drive.Left != 3 {
		t.Error("another one")
	}
}

// R3
func TestStore(t *testing.T) {
	st := api.Store{Left: 4}
	st.Shelves[2] = api.Shelf{Objs: []api.Obj{{Name: "a"}}, Fates: []int{1}}
	c := Store(st)
	c.Shelves[2].Objs[0].Name, c.Shelves[2].Fates[0] = "x", 9
	if st.Shelves[2].Objs[0].Name != "a" || st.Shelves[2].Fates[0] != 1 || c.Left != 4 {
		t.Error("shared")
	}
}

// R3
func TestVault(t *testing.T) {
	v := api.Vault{
		Ring: api.Ring{Epochs: []api.Epoch{{Wrap: "w"}}}, Keys: api.Keys{All: []api.Key{{1}}}, Pending: []api.Box{{Name: "b"}}, Pins: []string{"p"},
		Root: api.Root{N: 3, Refs: []api.Ref{{N: 1}}, Packs: []api.Packed{{Name: "p", Places: []api.Place{{Name: "q"}}}}, Chans: []api.Chan{{N: 4}}},
	}
	c := Vault(v)
	c.Ring.Epochs[0].Wrap, c.Keys.All[0], c.Pending[0].Name, c.Pins[0] = "x", api.Key{}, "x", "x"
	c.Root.Refs[0].N, c.Root.Packs[0].Name, c.Root.Packs[0].Places[0].Name, c.Root.Chans[0].N = 9, "x", "x", 9
	if v.Ring.Epochs[0].Wrap != "w" || v.Keys.All[0] != (api.Key{1}) || v.Pending[0].Name != "b" || v.Pins[0] != "p" {
		t.Error("shared")
	}
	if v.Root.Refs[0].N != 1 || v.Root.Packs[0].Name != "p" || v.Root.Packs[0].Places[0].Name != "q" || v.Root.Chans[0].N != 4 || c.Root.N != 3 {
		t.Error("shared")
	}
}

// R3
func TestAgent(t *testing.T) {
	a := api.Agent{Acked: 5, Known: []api.Named{{Name: "k"}}, Shot: api.Shot{Frames: []api.Kept{{Data: "f"}}, Blocks: []api.Kept{{Data: "b"}}}}
	a.Todo[1], a.Snap.Chunks[2] = []string{"t"}, []string{"c"}
	c := Agent(a)
	c.Known[0].Name, c.Shot.Frames[0].Data, c.Shot.Blocks[0].Data, c.Todo[1][0], c.Snap.Chunks[2][0] = "x", "x", "x", "x", "x"
	if a.Known[0].Name != "k" || a.Shot.Frames[0].Data != "f" || a.Shot.Blocks[0].Data != "b" || a.Todo[1][0] != "t" || a.Snap.Chunks[2][0] != "c" || c.Acked != 5 {
		t.Error("shared")
	}
}
