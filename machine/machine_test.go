package machine

import (
	"math"
	"slices"
	"strings"
	"testing"

	"hibernacle/api"
	"hibernacle/asm"
	"hibernacle/cache"
	"hibernacle/exe"
	"hibernacle/fs"
	"hibernacle/state"
)

// echo reads 8 bytes and writes them, again and again.
const echo = `start:
li r1, 0
la r2, buf
li r3, 8
sys 1
beq r1, r0, end
addi r3, r1, 0
li r1, 1
la r2, buf
sys 2
jal r0, start
end:
sys 0
room buf 8
`

// writer opens /log, writes x, syncs, and goes on.
const writer = `la r1, path
li r2, 4
li r3, 3
sys 3
addi r5, r1, 0
again:
addi r1, r5, 0
la r2, path
li r3, 4
sys 2
sys 13
jal r0, again
text path "/log"
`

func volume(t *testing.T, path, text string) []string {
	t.Helper()
	x, e, line := asm.Make(text)
	if e != api.OK {
		t.Fatal(e, line)
	}
	b, e := exe.Bytes(x)
	if e != api.OK {
		t.Fatal(e)
	}
	v, _ := fs.Make(60, 8)
	v, n, _ := fs.Create(v, path, 0)
	v, e = fs.Write(v, n, 0, b)
	if e != api.OK {
		t.Fatal(e)
	}
	return v
}

func boots(t *testing.T, text string) api.Machine {
	t.Helper()
	m, e := New(api.Config{Frames: 8, Quantum: 3, Init: "/e"}, volume(t, "/e", text))
	if e != api.OK || state.Check(m) != api.OK {
		t.Fatal(e, state.Check(m))
	}
	return m
}

func zero(m api.Machine) bool { return Same(m, api.Machine{}) }

// P30.1
func TestNew(t *testing.T) {
	m := boots(t, echo)
	p := m.Procs[0]
	if m.Clock != 0 || m.Cur != 0 || m.Next != 2 || m.NewPipe != 1 || len(m.Frames) != 8 || m.Init != "/e" || p.Pid != 1 || p.Parent != 0 ||
		p.Fds != [8]api.Fd{{Kind: api.FdIn}, {Kind: api.FdOut}} || m.Drive.Left != -1 || m.Left != 0 {
		t.Error(m.Procs)
	}
	v := volume(t, "/e", echo)
	v, _, _ = fs.Mkdir(v, "/d", 0)
	v, n, _ := fs.Create(v, "/x", 0)
	v, _ = fs.Write(v, n, 0, "hibz")
	for i, c := range []struct {
		c    api.Config
		v    []string
		want api.Errno
	}{
		{api.Config{Frames: 0, Quantum: 1, Init: "/e"}, nil, api.ErrArg}, {api.Config{Frames: 65, Quantum: 1, Init: "/e"}, v, api.ErrArg}, {api.Config{Frames: 8, Quantum: 0, Init: "/e"}, v, api.ErrArg},
		{api.Config{Frames: 8, Quantum: 1001, Init: "/e"}, v, api.ErrArg}, {api.Config{Frames: 8, Quantum: 1, Init: strings.Repeat("x", 129)}, v, api.ErrArg}, {api.Config{Frames: 8, Quantum: 1, Init: "/e"}, nil, api.ErrRange},
		{api.Config{Frames: 8, Quantum: 1, Init: "/e"}, []string{"x"}, api.ErrForm}, {api.Config{Frames: 8, Quantum: 1, Init: "e"}, v, api.ErrName}, {api.Config{Frames: 8, Quantum: 1, Init: "/none"}, v, api.ErrNone},
		{api.Config{Frames: 8, Quantum: 1, Init: "/d"}, v, api.ErrKind}, {api.Config{Frames: 8, Quantum: 1, Init: "/x"}, v, api.ErrForm}, {api.Config{Frames: 2, Quantum: 1, Init: "/e"}, v, api.ErrFull},
	} {
		if m, e := New(c.c, c.v); e != c.want || !zero(m) {
			t.Error(i, e)
		}
	}
}

// P30.2, P30.3
func TestEcho(t *testing.T) {
	m := boots(t, echo)
	m, e := Feed(m, "hello", true)
	if e != api.OK {
		t.Fatal(e)
	}
	m, told := Run(m, 200)
	if told != "hello" || len(m.Procs) != 0 || m.Clock != 200 || m.Told != 5 || m.In != "" {
		t.Error(told, m.Procs)
	}
	same, told := Run(m, 0)
	if !Same(same, m) || told != "" {
		t.Error("no steps")
	}
	if same, _ := Run(m, math.MinInt); !Same(same, m) {
		t.Error("fewer than no steps")
	}
}

// P30.2: step by step.
func TestStep(t *testing.T) {
	m := boots(t, echo)
	s, told := Step(m)
	if s.Clock != 1 || s.Cur != 1 || s.Left != 2 || s.Procs[0].Cpu.PC != 4 || told != "" || m.Clock != 0 {
		t.Error(s.Clock, s.Cur, s.Left)
	}
	m.Clock = math.MaxUint64
	if s, _ := Step(m); s.Clock != 0 {
		t.Error("the clock goes round")
	}
	// A fault, and what is no instruction, end the process.
	child := boots(t, "jalr r0, 2(r0)")
	child.Procs = append(child.Procs, child.Procs[0])
	child.Procs[1].Pid, child.Procs[1].Parent, child.Next = 2, 1, 3
	child.Procs[1].Space, child.Cur, child.Left = api.Space{}, 2, 3
	if s, _ := Step(child); s.Procs[1].State != api.Dead || s.Procs[1].Code != 527 || s.Left != 2 {
		t.Error(s.Procs[1])
	}
	child.Frames[0] = strings.Repeat("\x00", 128)
	child.Procs[1].Space, child.Procs[0].Space = child.Procs[0].Space, api.Space{}
	if s, _ := Step(child); s.Procs[1].State != api.Dead || s.Procs[1].Code != 528 {
		t.Error(s.Procs[1])
	}
	// Nobody is ready: only the clock goes on.
	m = boots(t, echo)
	m, _ = Run(m, 30)
	if p := m.Procs[0]; p.State != api.Waits || p.Why != api.ForInput {
		t.Fatal(p)
	}
	s, told = Step(m)
	m.Clock++
	if !Same(s, m) || told != "" {
		t.Error("it goes on")
	}
}

// P30.3: what sleeps is woken in time, whatever is passed over.
func TestSleeps(t *testing.T) {
	m := boots(t, "li r1, 50\nsys 9\nli r1, 1\nla r2, x\nli r3, 1\nsys 2\nsys 0\ntext x \"!\"")
	one := m
	var told string
	for range 100 {
		var s string
		one, s = Step(one)
		told += s
	}
	all, s := Run(m, 100)
	if !Same(one, all) || s != "!" || told != "!" {
		t.Error(s, told)
	}
	m = boots(t, echo)
	m, _ = Run(m, 1<<40)
	if m.Clock != 1<<40 {
		t.Error(m.Clock)
	}
	// Whoever sleeps long is woken just then, however many steps there are.
	m = boots(t, "li r1, 4000000000\nsys 9\nli r1, 1\naddi r2, r0, x\nli r3, 1\nsys 2\nsys 0\ntext x \"!\"")
	before, s := Run(m, 4000000002)
	if before.Procs[0].State != api.Waits || s != "" {
		t.Error(before.Procs[0], s)
	}
	woken, _ := Run(before, 1)
	if p := woken.Procs[0]; p.State != api.Ready || p.Cpu.PC == before.Procs[0].Cpu.PC {
		t.Error(p)
	}
	if end, s := Run(m, 1<<40); s != "!" || len(end.Procs) != 0 || end.Clock != 1<<40 {
		t.Error(s)
	}
}

// P30.4
func TestFeed(t *testing.T) {
	m := boots(t, echo)
	m, e := Feed(m, "ab", false)
	if e != api.OK || m.In != "ab" || m.End {
		t.Error(e)
	}
	m, e = Feed(m, strings.Repeat("x", 4094), false)
	if e != api.OK || len(m.In) != 4096 {
		t.Error(e)
	}
	if out, e := Feed(m, "x", true); e != api.ErrLimit || !zero(out) {
		t.Error(e)
	}
	m, e = Feed(m, "", true)
	if e != api.OK || !m.End {
		t.Error(e)
	}
	if out, e := Feed(m, strings.Repeat("x", 9999), false); e != api.ErrState || !zero(out) {
		t.Error(e)
	}
	m.End, m.In = false, strings.Repeat("x", 4097)
	if _, e := Feed(m, "", false); e != api.ErrLimit {
		t.Error(e)
	}
}

// P30.5
func TestCrash(t *testing.T) {
	m := boots(t, writer)
	x := uint32(1)
	syncs := map[string]bool{}
	for i := range 400 {
		m, _ = Step(m)
		if len(m.Dirty) == 0 {
			syncs[text(cache.View(m))] = true
		}
		if i%7 != 0 {
			continue
		}
		var picks []int
		for range 20 {
			x = x*1664525 + 1013904223
			picks = append(picks, int(x>>16))
		}
		gone := m
		gone.Drive.Left = int(x>>8) % 6
		gone, _ = Run(gone, 30)
		c, e := Crash(gone, picks)
		if e != api.OK || state.Check(c) != api.OK || c.Clock != 0 || len(c.Procs) != 1 || c.Quantum != 3 || len(c.Frames) != 8 || c.Drive.Left != -1 || c.Init != "/e" {
			t.Fatal(i, e)
		}
		// The file is as it was at a sync, or at the next one.
		if s := text(cache.View(c)); strings.Trim(s, "/log") != "" || len(s) > 4*(len(syncs)+3) {
			t.Fatal(i, s)
		}
	}
	if len(syncs) < 3 {
		t.Error("no syncs")
	}
	if c, e := Crash(api.Machine{}, nil); e != api.ErrRange || !zero(c) {
		t.Error(e)
	}
	m.Init = "/none"
	if c, e := Crash(m, nil); e != api.ErrNone || !zero(c) {
		t.Error(e)
	}
}

func text(v []string) string {
	n, _ := fs.Find(v, "/log")
	s, _ := fs.Read(v, n, 0, 9999)
	return s
}

// P30.6
func TestSame(t *testing.T) {
	m := boots(t, echo)
	if !Same(m, boots(t, echo)) {
		t.Error("alike")
	}
	for i, turn := range []func(m *api.Machine){
		func(m *api.Machine) { m.Clock++ }, func(m *api.Machine) { m.Quantum++ }, func(m *api.Machine) { m.Cur++ }, func(m *api.Machine) { m.Left++ }, func(m *api.Machine) { m.Frames = m.Frames[1:] },
		func(m *api.Machine) { m.Procs[0].Mask = true }, func(m *api.Machine) { m.Next++ }, func(m *api.Machine) { m.Init += "x" }, func(m *api.Machine) { m.Pipes = make([]api.Pipe, 1) }, func(m *api.Machine) { m.NewPipe++ },
		func(m *api.Machine) { m.In += "x" }, func(m *api.Machine) { m.End = true }, func(m *api.Machine) { m.Told++ }, func(m *api.Machine) { m.Drive.Blocks[9] = "x" }, func(m *api.Machine) { m.Drive.Left++ },
		func(m *api.Machine) { m.Drive.Pending = make([]api.Write, 1) }, func(m *api.Machine) { m.Dirty = make([]api.Write, 1) },
	} {
		other := boots(t, echo)
		turn(&other)
		if Same(m, other) || Same(other, m) {
			t.Error(i)
		}
	}
}

// P30.7
func TestGoesOn(t *testing.T) {
	for _, text := range []string{echo, writer} {
		m := boots(t, text)
		m, _ = Feed(m, "some bytes that are told", false)
		begin := slices.Clone(m.Frames)
		all, told := Run(m, 150)
		part, a := Run(m, 60)
		part, b := Run(part, 90)
		if !Same(all, part) || told != a+b || all.Told != uint64(len(told)) || !slices.Equal(m.Frames, begin) {
			t.Error("n and m steps")
		}
		for range 150 {
			m, _ = Step(m)
			if e := state.Check(m); e != api.OK {
				t.Fatal(e)
			}
		}
	}
}

func BenchmarkStep(b *testing.B) {
	x, _, _ := asm.Make("start:\naddi r1, r1, 1\njal r0, start")
	file, _ := exe.Bytes(x)
	v, _ := fs.Make(200, 8)
	v, n, _ := fs.Create(v, "/e", 0)
	v, _ = fs.Write(v, n, 0, file)
	m, _ := New(api.Config{Frames: 64, Quantum: 3, Init: "/e"}, v)
	for b.Loop() {
		m, _ = Step(m)
	}
}

// P30.1, P30.4: what may just be.
func TestEdges(t *testing.T) {
	v := volume(t, "/e", echo)
	for _, c := range []api.Config{{Frames: 64, Quantum: 1, Init: "/e"}, {Frames: 4, Quantum: 1000, Init: "/e"}} {
		if m, e := New(c, v); e != api.OK || len(m.Frames) != c.Frames || m.Quantum != c.Quantum {
			t.Error(c, e)
		}
	}
	if _, e := New(api.Config{Frames: 1, Quantum: 1, Init: "/e"}, v); e != api.ErrFull {
		t.Error(e)
	}
	if _, e := New(api.Config{Frames: 8, Quantum: 1, Init: strings.Repeat("x", 128)}, v); e != api.ErrName {
		t.Error(e)
	}
	if m, e := Feed(boots(t, echo), strings.Repeat("x", 4096), false); e != api.OK || len(m.In) != 4096 {
		t.Error(e)
	}
	if _, e := Feed(boots(t, echo), strings.Repeat("x", 4097), false); e != api.ErrLimit {
		t.Error(e)
	}
}
