package state

import (
	"math"
	"slices"
	"strings"
	"testing"

	"hibernacle/api"
	"hibernacle/geom"
	"hibernacle/wal"
)

// machine is one that may be: process 2 lives, 5 waits for its pipe 3, 6 is a dead child of 2.
func machine(t *testing.T) api.Machine {
	t.Helper()
	v, _ := geom.Format(24, 8)
	d, e := wal.Format(v)
	if e != api.OK {
		t.Fatal(e)
	}
	zeros := strings.Repeat("\x00", 128)
	return api.Machine{
		Quantum: 10, Left: 10, Cur: 7, Frames: slices.Repeat([]string{zeros}, 6), Next: 7, NewPipe: 5, Drive: d,
		Procs: []api.Proc{
			{Pid: 2, Parent: 2, State: api.Ready, Space: api.Space{0: {Is: true, Frame: 4}, 15: {Is: true, Write: true}}, Fds: [8]api.Fd{{Kind: api.FdIn}, {Kind: api.FdTo, N: 3}, {Kind: api.FdFile, N: 64, Pos: 8960}}},
			{Pid: 5, State: api.Waits, Why: api.ForBytes, N: 3, Mask: true, Fds: [8]api.Fd{3: {Kind: api.FdFrom, N: 3}, 4: {Kind: api.FdTo, N: 3}, 5: {Kind: api.FdOut}}},
			{Pid: 6, Parent: 2, State: api.Dead, Code: 9},
		},
		Pipes: []api.Pipe{{Id: 3, Data: "abc"}, {Id: 4}},
		Dirty: []api.Write{{Block: 5, Data: zeros}, {Block: 23, Data: zeros}},
	}
}

// P25.1
func TestCheckOK(t *testing.T) {
	m := machine(t)
	if e := Check(m); e != api.OK {
		t.Error(e)
	}
	m.Clock, m.Told, m.End = math.MaxUint64, math.MaxUint64, true
	m.Left, m.Cur, m.Next, m.NewPipe = 0, math.MaxInt, 1000000000, 1000000000
	m.In, m.Init = strings.Repeat("x", 65536), strings.Repeat("x", 128)
	if e := Check(m); e != api.OK {
		t.Error(e)
	}
}

// P25.1: each point by itself.
func TestCheckWrong(t *testing.T) {
	for i, c := range []struct {
		turn func(m *api.Machine)
		want api.Errno
	}{
		{func(m *api.Machine) { m.Quantum = 0 }, api.ErrRange}, {func(m *api.Machine) { m.Quantum = 1001 }, api.ErrRange},
		{func(m *api.Machine) { m.Left = 11 }, api.ErrRange}, {func(m *api.Machine) { m.Left = -1 }, api.ErrRange}, {func(m *api.Machine) { m.Cur = -1 }, api.ErrRange},
		{func(m *api.Machine) { m.Next = 1000000001 }, api.ErrRange}, {func(m *api.Machine) { m.Next = 0 }, api.ErrRange}, {func(m *api.Machine) { m.NewPipe = 0 }, api.ErrRange},
		{func(m *api.Machine) { m.Frames = nil }, api.ErrLimit}, {func(m *api.Machine) { m.Frames = make([]string, 65) }, api.ErrLimit}, {func(m *api.Machine) { m.Frames[3] = "x" }, api.ErrForm},
		{func(m *api.Machine) { m.Procs = make([]api.Proc, 9) }, api.ErrLimit}, {func(m *api.Machine) { m.Next = 6 }, api.ErrForm},
		{func(m *api.Machine) { m.Procs[1].Pid = 2 }, api.ErrForm}, {func(m *api.Machine) { m.Procs[0].Pid = 0 }, api.ErrForm}, {func(m *api.Machine) { m.Procs[0].State = 0 }, api.ErrForm},
		{func(m *api.Machine) { m.Procs[0].State = 4 }, api.ErrForm}, {func(m *api.Machine) { m.Procs[1].Parent = 6 }, api.ErrForm}, {func(m *api.Machine) { m.Procs[1].Parent = 3 }, api.ErrForm},
		{func(m *api.Machine) { m.Procs[2].Parent = 0 }, api.ErrForm}, {func(m *api.Machine) { m.Procs[2].Parent = 6 }, api.ErrForm}, {func(m *api.Machine) { m.Procs[2].Cpu.R[0] = 1 }, api.ErrForm},
		{func(m *api.Machine) { m.Procs[1].Why = 6 }, api.ErrForm}, {func(m *api.Machine) { m.Procs[1].Why = 0 }, api.ErrForm}, {func(m *api.Machine) { m.Procs[0].Why = 1 }, api.ErrForm},
		{func(m *api.Machine) { m.Procs[0].N = 1 }, api.ErrForm}, {func(m *api.Machine) { m.Procs[0].Code = 1 }, api.ErrForm}, {func(m *api.Machine) { m.Procs[1].Code = 1 }, api.ErrForm},
		{func(m *api.Machine) { m.Procs[0].Space[1].Write = true }, api.ErrForm}, {func(m *api.Machine) { m.Procs[0].Space[1].Frame = 1 }, api.ErrForm},
		{func(m *api.Machine) { m.Procs[0].Space[1] = api.Pte{Is: true, Frame: 6} }, api.ErrForm}, {func(m *api.Machine) { m.Procs[0].Space[1] = api.Pte{Is: true, Frame: -1} }, api.ErrForm},
		{func(m *api.Machine) { m.Procs[1].Space[1] = api.Pte{Is: true, Frame: 4} }, api.ErrForm}, {func(m *api.Machine) { m.Procs[2].Space[1] = api.Pte{Is: true, Frame: 1} }, api.ErrForm},
		{func(m *api.Machine) { m.Procs[2].Fds[0].Kind = api.FdIn }, api.ErrForm}, {func(m *api.Machine) { m.Procs[0].Fds[0].N = 1 }, api.ErrForm}, {func(m *api.Machine) { m.Procs[0].Fds[0].Pos = 1 }, api.ErrForm},
		{func(m *api.Machine) { m.Procs[0].Fds[3].N = 1 }, api.ErrForm}, {func(m *api.Machine) { m.Procs[0].Fds[3].Kind = 6 }, api.ErrForm}, {func(m *api.Machine) { m.Procs[0].Fds[2].N = 65 }, api.ErrForm},
		{func(m *api.Machine) { m.Procs[0].Fds[2].N = 0 }, api.ErrForm}, {func(m *api.Machine) { m.Procs[0].Fds[2].Pos = 8961 }, api.ErrForm}, {func(m *api.Machine) { m.Procs[0].Fds[1].Pos = 1 }, api.ErrForm},
		{func(m *api.Machine) { m.Procs[0].Fds[1].N = 1 }, api.ErrForm}, {func(m *api.Machine) { m.Pipes = m.Pipes[1:] }, api.ErrForm},
		{func(m *api.Machine) { m.Pipes = make([]api.Pipe, 65); m.Pipes[0].Id = 3 }, api.ErrLimit}, {func(m *api.Machine) { m.Pipes[1].Id = 3 }, api.ErrForm}, {func(m *api.Machine) { m.Pipes[1].Id = 5 }, api.ErrForm},
		{func(m *api.Machine) { m.Pipes[0].Data = strings.Repeat("x", 65) }, api.ErrForm}, {func(m *api.Machine) { m.In = strings.Repeat("x", 65537) }, api.ErrLimit}, {func(m *api.Machine) { m.Init = strings.Repeat("x", 129) }, api.ErrLimit},
		{func(m *api.Machine) { m.Drive.Blocks[40] = "" }, api.ErrForm}, {func(m *api.Machine) { m.Drive.Blocks = m.Drive.Blocks[:33] }, api.ErrForm}, {func(m *api.Machine) { m.Drive.Pending = []api.Write{{Block: 99}} }, api.ErrRange},
		{func(m *api.Machine) { m.Dirty = make([]api.Write, 33) }, api.ErrLimit}, {func(m *api.Machine) { m.Dirty[1].Block = 5 }, api.ErrForm}, {func(m *api.Machine) { m.Dirty[1].Block = 24 }, api.ErrForm},
		{func(m *api.Machine) { m.Dirty[0].Block = -1 }, api.ErrForm}, {func(m *api.Machine) { m.Dirty[0].Data = "x" }, api.ErrForm}, {func(m *api.Machine) { m.Dirty[0].Block = 0 }, api.ErrForm},
		{func(m *api.Machine) { m.Drive.Blocks[33] = m.Drive.Blocks[0] }, api.ErrForm},
		{func(m *api.Machine) { m.Quantum, m.Frames = 0, nil }, api.ErrRange},
	} {
		m := machine(t)
		c.turn(&m)
		if e := Check(m); e != c.want {
			t.Error(i, e, c.want)
		}
	}
}

// P25.2
func TestFree(t *testing.T) {
	if l := Free(machine(t)); !slices.Equal(l, []int{1, 2, 3, 5}) {
		t.Error(l)
	}
	if Free(api.Machine{}) != nil {
		t.Error("no frames")
	}
}

// P25.3
func TestPipes(t *testing.T) {
	begin := machine(t)
	m, id := Open(begin)
	if p, ok := Pipe(m, 5); id != 5 || m.NewPipe != 6 || !ok || p != (api.Pipe{Id: 5}) || len(m.Pipes) != 3 || len(begin.Pipes) != 2 {
		t.Error(id, m.Pipes)
	}
	m, n := Put(m, 5, strings.Repeat("x", 70))
	if n != 64 {
		t.Error(n)
	}
	m, s := Take(m, 5, 3)
	if s != "xxx" {
		t.Error(s)
	}
	m, n = Put(m, 5, strings.Repeat("y", 70))
	if p, _ := Pipe(m, 5); n != 3 || p.Data != strings.Repeat("x", 61)+"yyy" {
		t.Error(n, p)
	}
	for id, want := range map[int][2]int{3: {1, 2}, 4: {0, 0}, 5: {0, 0}, 99: {0, 0}} {
		if a, b := Ends(m, id); a != want[0] || b != want[1] {
			t.Error(id, a, b)
		}
	}
	if p, ok := Pipe(m, 9); ok || p != (api.Pipe{}) {
		t.Error(p)
	}
	if out, n := Put(m, 9, "x"); n != 0 || !slices.Equal(out.Pipes, m.Pipes) {
		t.Error(n)
	}
	if out, s := Take(m, 9, 1); s != "" || !slices.Equal(out.Pipes, m.Pipes) {
		t.Error(s)
	}
	for n, want := range map[int]string{-1: "", math.MinInt: "", 0: "", 2: "ab", 99: "abc", math.MaxInt: "abc"} {
		if out, s := Take(begin, 3, n); s != want || out.Pipes[0].Data != "abc"[len(want):] {
			t.Error(n, s)
		}
	}
	if m = Sweep(m); !slices.Equal(m.Pipes, []api.Pipe{{Id: 3, Data: "abc"}}) {
		t.Error(m.Pipes)
	}
}

// P25.4
func TestMayBe(t *testing.T) {
	m := machine(t)
	m, id := Open(m)
	sent, got := "", ""
	x := uint32(1)
	for i := range 300 {
		x = x*1664525 + 1013904223
		s := strings.Repeat(string(rune('a'+i%26)), int(x>>20)%40)
		var n int
		m, n = Put(m, id, s)
		sent += s[:n]
		var out string
		m, out = Take(m, id, int(x>>10)%50)
		got += out
		if e := Check(m); e != api.OK || !strings.HasPrefix(sent, got) {
			t.Fatal(i, e)
		}
	}
	if e := Check(Sweep(m)); e != api.OK || len(got) < 1000 {
		t.Error(e, len(got))
	}
}

// P25.1: all numbers at their edges.
func TestEdges(t *testing.T) {
	zeros := strings.Repeat("\x00", 128)
	for i, turn := range []func(m *api.Machine){
		func(m *api.Machine) { m.Quantum, m.Left = 1, 1 }, func(m *api.Machine) { m.Quantum, m.Left = 1000, 1000 }, func(m *api.Machine) { m.Cur = 0 }, func(m *api.Machine) {
			*m = api.Machine{Quantum: 1, Next: 1, NewPipe: 1, Frames: m.Frames[:1], Drive: m.Drive}
		},
		func(m *api.Machine) { m.Frames = slices.Repeat([]string{zeros}, 64) }, func(m *api.Machine) { m.Procs[1].Why = 1 }, func(m *api.Machine) { m.Procs[1].Why = 5 }, func(m *api.Machine) { m.Procs[0].Fds[2] = api.Fd{Kind: api.FdFile, N: 1} }, func(m *api.Machine) { m.Procs[0].Pid, m.Procs[0].Parent, m.Procs[2].Parent = 1, 1, 1 },
		func(m *api.Machine) { m.Pipes[0].Data = strings.Repeat("x", 64) }, func(m *api.Machine) { m.Pipes = append([]api.Pipe{{Id: 1}}, m.Pipes...) },
		func(m *api.Machine) {
			for id := 5; len(m.Pipes) < 64; id++ {
				m.Pipes = append(m.Pipes, api.Pipe{Id: id})
			}
			m.NewPipe = 100
		},
		func(m *api.Machine) {
			m.Next = 20
			for pid := 7; len(m.Procs) < 8; pid++ {
				m.Procs = append(m.Procs, api.Proc{Pid: pid, State: api.Ready})
			}
		},
		func(m *api.Machine) { m.Dirty[0].Block = 3 },
		func(m *api.Machine) {
			v, _ := geom.Format(60, 8)
			m.Drive, _ = wal.Format(v)
			m.Dirty = nil
			for i := range 32 {
				m.Dirty = append(m.Dirty, api.Write{Block: 20 + i, Data: zeros})
			}
		},
	} {
		m := machine(t)
		turn(&m)
		if e := Check(m); e != api.OK {
			t.Error(i, e)
		}
	}
	for i, turn := range []func(m *api.Machine){func(m *api.Machine) { m.Procs[0].Fds[2].Pos = -1 }, func(m *api.Machine) { m.Procs[1].Why = -1 }, func(m *api.Machine) { m.Pipes[0].Id = 0 }} {
		m := machine(t)
		turn(&m)
		if e := Check(m); e != api.ErrForm {
			t.Error(i, e)
		}
	}
}

// P25.3: the first pipe, and pipes with one end.
func TestFirstPipe(t *testing.T) {
	m := machine(t)
	if p, ok := Pipe(m, 3); !ok || p.Data != "abc" {
		t.Error(p)
	}
	if out, n := Put(m, 3, "d"); n != 1 || out.Pipes[0].Data != "abcd" {
		t.Error(n)
	}
	m.Procs[0].Fds[1], m.Procs[1].Fds[4] = api.Fd{}, api.Fd{}
	if from, to := Ends(m, 3); from != 1 || to != 0 || len(Sweep(m).Pipes) != 1 {
		t.Error("a pipe that is read stays")
	}
	m.Procs[1].Fds[3] = api.Fd{Kind: api.FdTo, N: 3}
	if from, to := Ends(m, 3); from != 0 || to != 1 || len(Sweep(m).Pipes) != 1 {
		t.Error("a pipe that is written stays")
	}
}
