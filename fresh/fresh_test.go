package fresh

import (
	"testing"

	"hibernacle/api"
)

// R3: what is answered shares nothing with what was handed in.
func TestMachine(t *testing.T) {
	m := api.Machine{
		Clock: 7, Frames: []string{"a"}, Procs: []api.Proc{{Pid: 1}}, Pipes: []api.Pipe{{Id: 1}}, Dirty: []api.Write{{Block: 1}},
		Drive: api.Drive{Blocks: []string{"b"}, Pending: []api.Write{{Block: 2}}, Left: 3},
	}
	c := Machine(m)
	c.Frames[0], c.Procs[0].Pid, c.Pipes[0].Id, c.Dirty[0].Block = "x", 9, 9, 9
	c.Drive.Blocks[0], c.Drive.Pending[0].Block = "x", 9
	if m.Frames[0] != "a" || m.Procs[0].Pid != 1 || m.Pipes[0].Id != 1 || m.Dirty[0].Block != 1 || m.Drive.Blocks[0] != "b" || m.Drive.Pending[0].Block != 2 {
		t.Error("shared")
	}
	if c.Clock != 7 || c.Drive.Left != 3 {
		t.Error("another one")
	}
}

// R3
func TestStore(t *testing.T) {
	st := api.Store{Left: 4}
	st.Shelves[2] = api.Shelf{Objs: []api.Obj{{Name: "a"}}, Fates: []int{1}}
	c := Store(st)
	c.Shelves[2].Objs[0].Name, c.Shelves[2].Fates[0] = "x", 9
	if st.Shelves[2].Objs[0].Name != "a" || st.Shelves[2].Fates[0] != 1 || c.Left != 4 {
		t.Error("shared")
	}
}
