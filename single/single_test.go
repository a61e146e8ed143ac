package single

import (
	"slices"
	"strings"
	"testing"

	"hibernacle/api"
	"hibernacle/cache"
	"hibernacle/dir"
	"hibernacle/fs"
	"hibernacle/image"
	"hibernacle/machine"
	"hibernacle/mmu"
	"hibernacle/proc"
	"hibernacle/progs"
	"hibernacle/state"
)

func boots(t *testing.T, frames int, init string, names ...string) api.Machine {
	t.Helper()
	v, _ := progs.Disk(150, 20, names...)
	v, _, _ = fs.Mkdir(v, "/d", 0)
	v, _ = dir.Add(v, 1, "far", 60)
	m, e := machine.New(api.Config{Frames: frames, Quantum: 5, Init: init}, v)
	if e != api.OK {
		t.Fatal(e)
	}
	return m
}

// memory is all that a process's pages have.
func memory(m api.Machine, pid int) string {
	i, _ := proc.Find(m, pid)
	s := ""
	for at, page := range m.Procs[i].Space {
		if page.Is {
			b, _ := mmu.Copy(m.Frames, m.Procs[i].Space, uint32(128*at), 128)
			s += string(rune('a'+at)) + b
		}
	}
	return s
}

// P56.1
func TestFile(t *testing.T) {
	m := boots(t, 16, "/bank", "cat", "bank")
	m, _ = machine.Run(m, 400)
	x := image.Of(m)
	if s, e := File(x, "/accounts"); e != api.OK || s != strings.Repeat("d\x00\x00\x00", 8) {
		t.Errorf("%q %d", s, e)
	}
	for path, want := range map[string]api.Errno{"accounts": api.ErrName, "/none": api.ErrNone, "/d": api.ErrKind, "/": api.ErrKind, "/far": api.ErrKind, "/cat/x": api.ErrKind} {
		if s, e := File(x, path); e != want || s != "" {
			t.Error(path, e)
		}
	}
	if s, e := File(api.Image{}, "/"); e != api.ErrForm || s != "" {
		t.Error(e)
	}
}

// P56.1
func TestProcErrors(t *testing.T) {
	from := boots(t, 32, "/sh", "sh", "kv")
	from, _ = machine.Feed(from, "kv\n", false)
	from, _ = machine.Run(from, 1000)
	x := image.Of(from)
	if len(from.Procs) != 2 {
		t.Fatal(from.Procs)
	}
	into := boots(t, 16, "/kv", "kv")
	dead := from
	dead.Procs = slices.Clone(from.Procs)
	dead = proc.Die(dead, 2, 0)
	full := into
	for range 7 {
		full.Procs = append(slices.Clone(full.Procs), api.Proc{Pid: full.Next, State: api.Ready})
		full.Next++
	}
	small := boots(t, 8, "/kv", "kv")
	for i, c := range []struct {
		x    api.Image
		pid  int
		into api.Machine
		want api.Errno
	}{
		{api.Image{}, 1, api.Machine{}, api.ErrForm}, {x, 9, api.Machine{}, api.ErrRange}, {x, 9, full, api.ErrNone}, {x, 0, into, api.ErrNone}, {image.Of(dead), 2, into, api.ErrNone}, {x, 2, full, api.ErrLimit}, {x, 2, small, api.ErrFull}, {x, 2, into, api.OK},
	} {
		m, pid, e := Proc(c.x, c.pid, c.into)
		if e != c.want || e != api.OK && (pid != 0 || m.Frames != nil) {
			t.Error(i, e)
		}
	}
}

// P56.2, P56.3, T17
func TestProc(t *testing.T) {
	from := boots(t, 16, "/kv", "kv")
	from, _ = machine.Feed(from, "p a x\n", false)
	from, told := machine.Run(from, 1500)
	if told != "ok\n" || from.Procs[0].State != api.Waits {
		t.Fatal(told)
	}
	from.Procs[0].Mask = true
	into := boots(t, 40, "/bank", "bank", "cat")
	into, _ = machine.Run(into, 500)
	was := memory(into, 1)
	m, pid, e := Proc(image.Of(from), 1, into)
	if e != api.OK || pid != 2 || m.Next != 3 || len(m.Procs) != 2 || state.Check(m) != api.OK {
		t.Fatal(e, pid)
	}
	p := m.Procs[1]
	if p.State != api.Ready || p.Parent != 0 || p.Cpu != from.Procs[0].Cpu || !p.Mask || p.Why != 0 || p.N != 0 || p.Fds != from.Procs[0].Fds {
		t.Error(p)
	}
	if memory(m, 2) != memory(from, 1) || memory(m, 1) != was || m.Procs[0] != into.Procs[0] || !slices.Equal(cache.View(m), cache.View(into)) {
		t.Error("memory")
	}
	least := state.Free(into)
	for _, page := range p.Space {
		if page.Is && page.Frame != least[0] {
			t.Error("not the least frame")
		}
		if page.Is {
			least = least[1:]
		}
	}
	// It goes on as it would have, once it alone reads.
	m = proc.Die(m, 1, 0)
	m, _ = machine.Feed(m, "g a\ng b\n", true)
	if _, told := machine.Run(m, 3000); told != "x\n-\n" {
		t.Errorf("%q", told)
	}
	// Moved back into a machine with as many frames.
	empty := proc.Die(boots(t, 16, "/kv", "kv"), 1, 0)
	back, pid, e := Proc(image.Of(m), 2, empty)
	if e != api.OK || memory(back, pid) != memory(from, 1) {
		t.Error(e)
	}
}

// P56.1: what becomes of open files.
func TestFiles(t *testing.T) {
	from := boots(t, 16, "/kv", "cat", "kv", "up")
	v := cache.View(from)
	n, _ := fs.Find(v, "/up")
	v, _ = fs.Link(v, "/up", "/again")
	v, gone, _ := fs.Create(v, "/gone", 0)
	var e api.Errno
	if from, e = cache.Keep(from, v); e != api.OK {
		t.Fatal(e)
	}
	from, id := state.Open(from)
	from.Procs[0].Fds = [8]api.Fd{{Kind: api.FdOut}, {Kind: api.FdFile, N: n, Pos: 77}, {Kind: api.FdFile, N: gone, Pos: 1}, {Kind: api.FdFrom, N: id}, {Kind: api.FdTo, N: id}, {Kind: api.FdFile, N: 19}, {Kind: api.FdIn}}
	into := boots(t, 16, "/kv", "kv", "up")
	w, there, e := fs.Create(cache.View(into), "/again", 0)
	if e == api.OK {
		into, e = cache.Keep(into, w)
	}
	if e != api.OK {
		t.Fatal(e)
	}
	m, _, e := Proc(image.Of(from), 1, into)
	if e != api.OK {
		t.Fatal(e)
	}
	want := [8]api.Fd{{Kind: api.FdOut}, {Kind: api.FdFile, N: there, Pos: 77}, {}, {}, {}, {}, {Kind: api.FdIn}}
	if m.Procs[1].Fds != want || state.Check(m) != api.OK {
		t.Error(m.Procs[1].Fds, "the first path that is told counts")
	}
	// A directory at the path is no file.
	w, _ = fs.Remove(cache.View(into), "/again")
	w, _, _ = fs.Mkdir(w, "/again", 0)
	into, _ = cache.Keep(into, w)
	if m, _, e = Proc(image.Of(from), 1, into); e != api.OK || m.Procs[1].Fds[1] != (api.Fd{}) {
		t.Error(m.Procs[1].Fds)
	}
}

// P56.1: just as many frames as the process has pages.
func TestJustFits(t *testing.T) {
	from := boots(t, 16, "/kv", "kv")
	need := pages(from.Procs[0].Space)
	into := proc.Die(boots(t, need, "/kv", "kv"), 1, 0)
	if m, pid, e := Proc(image.Of(from), 1, into); e != api.OK || pid != 2 || len(state.Free(m)) != 0 {
		t.Error(e)
	}
	into.Frames = into.Frames[1:]
	if _, _, e := Proc(image.Of(from), 1, into); e != api.ErrFull {
		t.Error(e)
	}
}
