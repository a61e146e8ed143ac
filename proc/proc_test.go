package proc

import (
	"math"
	"slices"
	"strings"
	"testing"

	"hibernacle/api"
	"hibernacle/geom"
	"hibernacle/state"
	"hibernacle/wal"
)

var (
	in  = api.Fd{Kind: api.FdIn}
	out = api.Fd{Kind: api.FdOut}
	one = api.Exe{Text: []uint32{7}}
)

func machine(t *testing.T, frames int) api.Machine {
	t.Helper()
	v, _ := geom.Format(24, 8)
	d, e := wal.Format(v)
	if e != api.OK {
		t.Fatal(e)
	}
	return api.Machine{Quantum: 5, Next: 1, NewPipe: 1, Drive: d, Frames: slices.Repeat([]string{strings.Repeat("\xee", 128)}, frames)}
}

func spawn(t *testing.T, m api.Machine, parent int) (api.Machine, int) {
	t.Helper()
	m, pid, e := Spawn(m, one, parent, in, out)
	if e != api.OK {
		t.Fatal(e)
	}
	if e := state.Check(m); e != api.OK {
		t.Fatal(e)
	}
	return m, pid
}

// P26.2
func TestSpawn(t *testing.T) {
	m := machine(t, 9)
	m, a := spawn(t, m, 0)
	x := api.Exe{Text: []uint32{1, 2}, Data: "data", Room: 200, Entry: 4}
	m, b, e := Spawn(m, x, a, out, in)
	if e != api.OK || a != 1 || b != 2 || m.Next != 3 || len(m.Procs) != 2 {
		t.Fatal(a, b, e)
	}
	want := api.Proc{Pid: 2, Parent: 1, State: api.Ready, Cpu: api.Cpu{PC: 4, R: [16]uint32{15: 2048}}, Fds: [8]api.Fd{out, in}}
	want.Space[0] = api.Pte{Is: true, Frame: 2}
	want.Space[1] = api.Pte{Is: true, Write: true, Frame: 3}
	want.Space[2] = api.Pte{Is: true, Write: true, Frame: 4}
	want.Space[15] = api.Pte{Is: true, Write: true, Frame: 5}
	if m.Procs[1] != want {
		t.Error(m.Procs[1])
	}
	zeros := strings.Repeat("\x00", 128)
	if m.Frames[2][:8] != "\x01\x00\x00\x00\x02\x00\x00\x00" || m.Frames[3] != "data"+zeros[4:] || m.Frames[5] != zeros || m.Frames[6] == zeros {
		t.Error("frames")
	}
}

// P26.2
func TestSpawnErrors(t *testing.T) {
	m := machine(t, 2)
	if got, pid, e := Spawn(m, api.Exe{}, 0, in, out); e != api.ErrArg || pid != 0 || got.Frames != nil {
		t.Error(e)
	}
	m, _ = spawn(t, m, 0)
	if got, pid, e := Spawn(m, one, 0, in, out); e != api.ErrFull || pid != 0 || got.Frames != nil {
		t.Error(e)
	}
	m = machine(t, 16)
	for range 8 {
		m, _ = spawn(t, m, 0)
	}
	if _, _, e := Spawn(m, one, 0, in, out); e != api.ErrLimit {
		t.Error(e)
	}
	// Frames that were given back are taken again, the least ones first.
	m = Die(m, 3, 0)
	m, pid := spawn(t, m, 0)
	if p := m.Procs[len(m.Procs)-1]; pid != 9 || p.Space[0].Frame != 4 || p.Space[15].Frame != 5 {
		t.Error(pid, p.Space)
	}
}

// P26.1
func TestFindOpened(t *testing.T) {
	m := machine(t, 9)
	m, _ = spawn(t, m, 0)
	m, b := spawn(t, m, 0)
	m.Procs[1].Fds[7] = api.Fd{Kind: api.FdFile, N: 4}
	m.Procs[0].Fds[6] = api.Fd{Kind: api.FdTo, N: 5}
	if i, ok := Find(m, b); i != 1 || !ok {
		t.Error(i, ok)
	}
	for _, pid := range []int{0, -1, 3, math.MinInt} {
		if i, ok := Find(m, pid); i != 0 || ok {
			t.Error(pid, i)
		}
	}
	if !Opened(m, 4) || Opened(m, 5) || Opened(m, 0) {
		t.Error("opened")
	}
}

// P26.3
func TestGrow(t *testing.T) {
	m, pid := spawn(t, machine(t, 20), 0)
	m, at, e := Grow(m, pid, 2)
	if e != api.OK || at != 128 || m.Procs[0].Space[2] != (api.Pte{Is: true, Write: true, Frame: 3}) || m.Frames[3] != strings.Repeat("\x00", 128) {
		t.Error(at, e)
	}
	same, at, e := Grow(m, pid, 0)
	if e != api.OK || at != 384 || same.Procs[0] != m.Procs[0] {
		t.Error(at, e)
	}
	for _, c := range []struct {
		pid, n int
		want   api.Errno
	}{{2, -1, api.ErrNone}, {1, -1, api.ErrArg}, {1, 13, api.ErrLimit}, {1, math.MaxInt, api.ErrLimit}, {1, 12, api.OK}} {
		got, at, e := Grow(m, c.pid, c.n)
		if e != c.want || e != api.OK && (at != 0 || got.Frames != nil) {
			t.Error(c, at, e)
		}
		if e == api.OK {
			if _, at, e := Grow(got, 1, 0); at != 1920 || e != api.OK {
				t.Error(at, e)
			}
		}
	}
	small, _ := spawn(t, machine(t, 3), 0)
	if _, _, e := Grow(small, 1, 2); e != api.ErrFull {
		t.Error(e)
	}
	bare := m
	bare.Procs = []api.Proc{{Pid: 1, State: api.Ready}}
	if got, at, e := Grow(bare, 1, 1); at != 0 || e != api.OK || !got.Procs[0].Space[0].Is {
		t.Error(at, e)
	}
	m, child := spawn(t, m, 1)
	if _, _, e := Grow(Die(m, child, 0), child, 1); e != api.ErrNone {
		t.Error(e)
	}
}

// P26.4
func TestDie(t *testing.T) {
	m, a := spawn(t, machine(t, 20), 0)
	m, b := spawn(t, m, a)
	m, c := spawn(t, m, b)
	m, d := spawn(t, m, b)
	m, id := state.Open(m)
	m.Procs[1].Fds[3] = api.Fd{Kind: api.FdTo, N: id}
	m.Procs[1].Mask = true
	m.Procs[1].Cpu.R[3] = 77
	m = Die(m, c, 5)
	if p := m.Procs[2]; p.State != api.Dead || p.Code != 5 || p.Parent != b || p.Space != (api.Space{}) {
		t.Error(p)
	}
	if got := Die(m, c, 9); got.Procs[2].Code != 5 {
		t.Error("it is dead already")
	}
	if got := Die(m, 99, 9); !slices.Equal(got.Procs, m.Procs) {
		t.Error("there is none")
	}
	was := m.Procs[1]
	m = Die(m, b, 300)
	want := api.Proc{Pid: b, Parent: a, State: api.Dead, Code: 300, Cpu: was.Cpu}
	if len(m.Procs) != 3 || m.Procs[1] != want || m.Procs[2].Pid != d || m.Procs[2].Parent != 0 || len(m.Pipes) != 0 {
		t.Error(m.Procs, m.Pipes)
	}
	if e := state.Check(m); e != api.OK {
		t.Error(e)
	}
	m = Die(m, a, 0)
	if len(m.Procs) != 1 || m.Procs[0].Pid != d {
		t.Error(m.Procs)
	}
	two, _ := spawn(t, machine(t, 2), 0)
	if two = Die(two, 1, 0); two.Procs != nil && len(two.Procs) != 0 {
		t.Error(two.Procs)
	}
	own, _ := spawn(t, machine(t, 2), 0)
	own.Procs[0].Parent = 1
	if own = Die(own, 1, 0); len(own.Procs) != 0 {
		t.Error("its own parent")
	}
}

// P26.5
func TestReap(t *testing.T) {
	m, a := spawn(t, machine(t, 20), 0)
	m, b := spawn(t, m, a)
	m, c := spawn(t, m, a)
	if _, _, _, e := Reap(m, a, 0); e != api.ErrBusy {
		t.Error(e)
	}
	m = Die(Die(m, c, 8), b, 7)
	for _, x := range []struct {
		parent, pid, got int
		code             uint32
		want             api.Errno
	}{{a, 0, b, 7, 0}, {a, c, c, 8, 0}, {a, a, 0, 0, api.ErrNone}, {b, 0, 0, 0, api.ErrNone}, {a, -1, 0, 0, api.ErrNone}, {0, a, 0, 0, api.ErrBusy}, {0, 0, 0, 0, api.ErrBusy}} {
		got, pid, code, e := Reap(m, x.parent, x.pid)
		if pid != x.got || code != x.code || e != x.want || e != 0 && got.Frames != nil {
			t.Error(x, pid, code, e)
		}
		if _, there := Find(got, pid); there && e == 0 {
			t.Error("it is there still")
		}
	}
}

// P26.6
func TestMayBe(t *testing.T) {
	m, _ := spawn(t, machine(t, 30), 0)
	x := uint32(1)
	for i := range 500 {
		x = x*1664525 + 1013904223
		pid := m.Procs[int(x>>20)%len(m.Procs)].Pid
		was := m
		var e api.Errno
		switch x >> 10 % 4 {
		case 0:
			var out api.Machine
			if p := m.Procs[0]; p.State != api.Dead {
				if out, _, e = Spawn(m, one, p.Pid, in, in); e == api.OK {
					m = out
				}
			}
		case 1:
			if out, _, e := Grow(m, pid, int(x>>5)%4); e == api.OK {
				m = out
			}
		case 2:
			if pid != m.Procs[0].Pid {
				m = Die(m, pid, x)
			}
		case 3:
			if out, _, _, e := Reap(m, m.Procs[0].Pid, 0); e == api.OK {
				m = out
			}
		}
		if e := state.Check(m); e != api.OK {
			t.Fatal(i, e)
		}
		for _, p := range was.Procs {
			if j, ok := Find(m, p.Pid); ok && p.Pid != pid && m.Procs[j] != p && p.State != api.Dead && m.Procs[j].Parent != 0 {
				t.Fatal(i, "another process is another one")
			}
		}
	}
}

// P26.3, P26.5: just as many frames as are free; a dead one that stands first.
func TestEdges(t *testing.T) {
	m, pid := spawn(t, machine(t, 5), 0)
	if got, _, e := Grow(m, pid, 3); e != api.OK || len(state.Free(got)) != 0 {
		t.Error(e)
	}
	m, parent := spawn(t, machine(t, 9), 0)
	m.Procs[0].Pid, m.Next = 5, 6
	m.Procs = append([]api.Proc{{Pid: 2, Parent: 5, State: api.Dead, Code: 4}, {Pid: 3, Parent: 5, State: api.Dead, Code: 6}}, m.Procs...)
	if e := state.Check(m); e != api.OK {
		t.Fatal(e, parent)
	}
	got, pid, code, e := Reap(m, 5, 0)
	if e != api.OK || pid != 2 || code != 4 || len(got.Procs) != 2 {
		t.Error(pid, code, e)
	}
	// A dead one without a parent that is there goes, too.
	m.Procs[0].Parent = 77
	if left := Die(m, 5, 0).Procs; len(left) != 0 {
		t.Error(left)
	}
}
