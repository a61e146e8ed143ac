package sys

import (
	"math"
	"slices"
	"strings"
	"testing"

	"hibernacle/api"
	"hibernacle/cache"
	"hibernacle/dir"
	"hibernacle/exe"
	"hibernacle/fs"
	"hibernacle/inode"
	"hibernacle/mmu"
	"hibernacle/proc"
	"hibernacle/state"
	"hibernacle/wal"
)

const minus = math.MaxUint32

// machine has two processes, 1 and 2 (its child), of one page of text and a page 1 to be written; /dir, /file ("hello"), /prog.
func machine(t *testing.T) api.Machine {
	t.Helper()
	v, e := fs.Make(120, 8)
	step := func(out []string, f api.Errno) {
		if f != api.OK {
			t.Fatal(f)
		}
		v = out
	}
	step(v, e)
	out, n, e := fs.Create(v, "/file", 0)
	step(out, e)
	step(fs.Write(v, n, 0, "hello"))
	out, _, e = fs.Mkdir(v, "/dir", 0)
	step(out, e)
	out, n, e = fs.Create(v, "/prog", 0)
	step(out, e)
	x := api.Exe{Text: []uint32{1}, Room: 128}
	b, _ := exe.Bytes(x)
	step(fs.Write(v, n, 0, b))
	d, e := wal.Format(v)
	if e != api.OK {
		t.Fatal(e)
	}
	m := api.Machine{Clock: 1<<32 + 5, Quantum: 10, Left: 10, Frames: slices.Repeat([]string{strings.Repeat("\x00", 128)}, 20), Next: 1, NewPipe: 1, Drive: d}
	m, _, _ = proc.Spawn(m, x, 0, api.Fd{Kind: api.FdIn}, api.Fd{Kind: api.FdOut})
	m, _, _ = proc.Spawn(m, x, 1, api.Fd{}, api.Fd{})
	m.Cur = 1
	return m
}

// with is the machine with the caller's arguments, and a text at 128.
func with(t *testing.T, m api.Machine, text string, args ...uint32) api.Machine {
	t.Helper()
	m.Procs = slices.Clone(m.Procs)
	i, _ := proc.Find(m, m.Cur)
	for j, a := range args {
		m.Procs[i].Cpu.R[1+j] = a
	}
	m.Procs[i].Cpu.PC = 40
	frames, ok := mmu.Lay(m.Frames, m.Procs[i].Space, 128, text)
	if !ok {
		t.Fatal("no room for a text")
	}
	m.Frames = frames
	if e := state.Check(m); e != api.OK {
		t.Fatal(e)
	}
	return m
}

// do does a call; the machine that comes may be.
func do(t *testing.T, m api.Machine, n uint32, text string, args ...uint32) (api.Machine, string) {
	t.Helper()
	out, told := Do(with(t, m, text, args...), n)
	if e := state.Check(out); e != api.OK {
		t.Fatal(n, args, e)
	}
	return out, told
}

func r1(m api.Machine) uint32 {
	i, _ := proc.Find(m, m.Cur)
	return m.Procs[i].Cpu.R[1]
}

// fails does a call that has an error: nothing else is done.
func fails(t *testing.T, m api.Machine, want api.Errno, n uint32, text string, args ...uint32) {
	t.Helper()
	begin := with(t, m, text, args...)
	out, told := Do(begin, n)
	if int32(r1(out)) != -int32(want) || told != "" {
		t.Error(n, text, args, int32(r1(out)), told)
	}
	i, _ := proc.Find(begin, begin.Cur)
	begin.Procs[i].Cpu.R[1] = -uint32(want)
	if !same(out, begin) {
		t.Error(n, text, args, "something else was done")
	}
}

func same(a, b api.Machine) bool {
	return a.Clock == b.Clock && a.Told == b.Told && a.In == b.In && a.Next == b.Next && a.NewPipe == b.NewPipe && slices.Equal(a.Procs, b.Procs) && slices.Equal(a.Pipes, b.Pipes) &&
		slices.Equal(a.Frames, b.Frames) && slices.Equal(a.Dirty, b.Dirty) && slices.Equal(a.Drive.Blocks, b.Drive.Blocks) && slices.Equal(a.Drive.Pending, b.Drive.Pending) && a.Drive.Left == b.Drive.Left
}

// waiting tells whether a machine is the one ahead, whose caller waits.
func waiting(t *testing.T, begin, out api.Machine, why int, n uint64) {
	t.Helper()
	i, _ := proc.Find(begin, begin.Cur)
	p := begin.Procs[i]
	p.State, p.Why, p.N = api.Waits, why, n
	p.Cpu.PC -= 4
	begin.Procs = slices.Clone(begin.Procs)
	begin.Procs[i] = p
	if !same(out, begin) {
		t.Error("it doesn't wait", out.Procs[i])
	}
}

// P29.1
func TestNoCaller(t *testing.T) {
	m := machine(t)
	m.Cur = 9
	if out, told := Do(m, 2); !same(out, m) || told != "" {
		t.Error("no such process")
	}
	m.Cur = 1
	m.Procs[0].State, m.Procs[0].Why = api.Waits, api.ForInput
	if out, told := Do(m, 10); !same(out, m) || told != "" {
		t.Error("it waits")
	}
	m = machine(t)
	fails(t, m, api.ErrArg, 19, "")
	fails(t, m, api.ErrArg, math.MaxUint32, "")
	for n := range uint32(20) {
		Do(api.Machine{Procs: []api.Proc{{State: api.Ready, Fds: [8]api.Fd{{Kind: 3, N: -1, Pos: -1}, {Kind: 4}, {Kind: 9}}}}}, n)
	}
}

// P29.1: exit, and kill.
func TestEnds(t *testing.T) {
	m := machine(t)
	out, _ := do(t, m, 0, "", 77)
	if len(out.Procs) != 1 || out.Procs[0].Pid != 2 || out.Procs[0].Parent != 0 {
		t.Error(out.Procs)
	}
	m.Cur = 2
	out, _ = do(t, m, 0, "", 77)
	if p := out.Procs[1]; p.State != api.Dead || p.Code != 77 {
		t.Error(p)
	}
	m.Cur = 1
	fails(t, m, api.ErrArg, 8, "", 2, 10)
	fails(t, m, api.ErrArg, 8, "", 99, 0)
	fails(t, m, api.ErrNone, 8, "", 99, 9)
	fails(t, m, api.ErrNone, 8, "", minus, 15)
	out, _ = do(t, m, 8, "", 2, 15)
	if p := out.Procs[1]; p.State != api.Dead || p.Code != 271 || r1(out) != 0 {
		t.Error(p)
	}
	fails(t, out, api.ErrNone, 8, "", 2, 9)
	m.Procs[1].Mask = true
	out, _ = do(t, m, 8, "", 2, 15)
	if out.Procs[1].State != api.Ready || r1(out) != 0 {
		t.Error("masked")
	}
	out, _ = do(t, m, 8, "", 2, 9)
	if out.Procs[1].Code != 265 {
		t.Error(out.Procs[1])
	}
	m.Cur = 2
	out, _ = do(t, m, 8, "", 2, 9)
	if p := out.Procs[1]; p.Code != 265 || p.Cpu.R[1] != 2 {
		t.Error("the caller itself", p)
	}
}

// P29.1: read of the console.
func TestReadIn(t *testing.T) {
	m := machine(t)
	fails(t, m, api.ErrArg, 1, "", 2, 128, 1)
	fails(t, m, api.ErrArg, 1, "", 8, 128, 1)
	fails(t, m, api.ErrArg, 1, "", minus, 128, 1)
	fails(t, m, api.ErrArg, 1, "", 1, 0, 129)
	fails(t, m, api.ErrKind, 1, "", 1, 0, 1)
	fails(t, m, api.ErrFault, 1, "", 0, 0, 1)
	fails(t, m, api.ErrFault, 1, "", 0, 250, 7)
	fails(t, m, api.ErrFault, 1, "", 0, 2049, 0)
	out, _ := do(t, m, 1, "", 0, 0, 0)
	if r1(out) != 0 || out.Procs[0].State != api.Ready {
		t.Error("n 0")
	}
	begin := with(t, m, "", 0, 128, 5)
	out, _ = Do(begin, 1)
	waiting(t, begin, out, api.ForInput, 0)
	m.In = "abcdefg"
	out, told := do(t, m, 1, "", 0, 200, 5)
	if s, _ := mmu.Copy(out.Frames, out.Procs[0].Space, 200, 6); r1(out) != 5 || s != "abcde\x00" || out.In != "fg" || told != "" {
		t.Errorf("%q", s)
	}
	m.In, m.End = "", true
	if out, _ = do(t, m, 1, "", 0, 128, 5); r1(out) != 0 || out.Procs[0].State != api.Ready {
		t.Error("the end")
	}
}

// P29.1: write to the console.
func TestWriteOut(t *testing.T) {
	m := machine(t)
	m.Told = math.MaxUint64
	fails(t, m, api.ErrArg, 2, "", 3, 128, 1)
	fails(t, m, api.ErrArg, 2, "", 1, 128, 129)
	fails(t, m, api.ErrKind, 2, "", 0, 128, 1)
	fails(t, m, api.ErrFault, 2, "", 1, 2000, 100)
	out, told := do(t, m, 2, "hi", 1, 128, 2)
	if told != "hi" || r1(out) != 2 || out.Told != 1 {
		t.Error(told, out.Told)
	}
	if out, told = do(t, m, 2, "hi", 1, 0, 3); told != "\x01\x00\x00" || r1(out) != 3 {
		t.Errorf("%q", told)
	}
	if out, told = do(t, m, 2, "", 1, 128, 0); told != "" || r1(out) != 0 {
		t.Error(told)
	}
}

// P29.1: open, read, write, seek, size, close of files.
func TestFiles(t *testing.T) {
	m := machine(t)
	fails(t, m, api.ErrArg, 3, "/file", 128, 129, 0)
	fails(t, m, api.ErrArg, 3, "/file", 128, 5, 4)
	fails(t, m, api.ErrFault, 3, "", 300, 5, 0)
	fails(t, m, api.ErrName, 3, "file", 128, 4, 1)
	fails(t, m, api.ErrNone, 3, "/none", 128, 5, 2)
	fails(t, m, api.ErrNone, 3, "/none/x", 128, 7, 1)
	fails(t, m, api.ErrKind, 3, "/dir", 128, 4, 3)
	fails(t, m, api.ErrKind, 3, "/", 128, 1, 3)
	full := m
	full.Procs = slices.Clone(m.Procs)
	for i := range full.Procs[0].Fds {
		full.Procs[0].Fds[i] = api.Fd{Kind: api.FdIn}
	}
	fails(t, full, api.ErrLimit, 3, "/none", 128, 5, 0)
	a, _ := do(t, m, 3, "/file", 128, 5, 1)
	if r1(a) != 2 || a.Procs[0].Fds[2] != (api.Fd{Kind: api.FdFile, N: 2}) || len(a.Dirty) != 0 {
		t.Error(r1(a))
	}
	out, _ := do(t, a, 1, "", 2, 128, 3)
	if s, _ := mmu.Copy(out.Frames, out.Procs[0].Space, 128, 4); s != "hell" || r1(out) != 3 || out.Procs[0].Fds[2].Pos != 3 {
		t.Errorf("%q", s)
	}
	out, _ = do(t, out, 1, "", 2, 128, 100)
	if out, _ = do(t, out, 1, "", 2, 128, 100); r1(out) != 0 || out.Procs[0].Fds[2].Pos != 5 {
		t.Error("the end")
	}
	out, _ = do(t, out, 2, "XY", 2, 128, 2)
	if s, _ := fs.Read(cache.View(out), 2, 0, 99); s != "helloXY" || r1(out) != 2 || out.Procs[0].Fds[2].Pos != 7 || len(out.Dirty) == 0 {
		t.Error(s)
	}
	if z, _ := do(t, out, 17, "", 2); r1(z) != 7 {
		t.Error(r1(z))
	}
	fails(t, out, api.ErrRange, 12, "", 2, 8961)
	fails(t, out, api.ErrKind, 12, "", 1, 0)
	fails(t, out, api.ErrArg, 12, "", 5, 0)
	fails(t, out, api.ErrKind, 17, "", 0)
	fails(t, out, api.ErrArg, 17, "", 9)
	z, _ := do(t, out, 12, "", 2, 8960)
	if r1(z) != 8960 || z.Procs[0].Fds[2].Pos != 8960 {
		t.Error(r1(z))
	}
	fails(t, z, api.ErrLimit, 2, "q", 2, 128, 1)
	fails(t, z, api.ErrArg, 4, "", 4)
	z, _ = do(t, z, 4, "", 2)
	if r1(z) != 0 || z.Procs[0].Fds[2] != (api.Fd{}) {
		t.Error(r1(z))
	}
	z, _ = do(t, z, 3, "/file", 128, 5, 2)
	if s, _ := fs.Read(cache.View(z), 2, 0, 99); s != "" || r1(z) != 2 {
		t.Error(s)
	}
	n, _ := do(t, z, 3, "/new", 128, 4, 3)
	if i, e := fs.Find(cache.View(n), "/new"); e != api.OK || r1(n) != 3 || n.Procs[0].Fds[3].N != i {
		t.Error(e)
	}
	odd := m
	odd.Procs = slices.Clone(m.Procs)
	odd.Procs[0].Fds[5] = api.Fd{Kind: api.FdFile, N: 64}
	fails(t, odd, api.ErrRange, 17, "", 5)
	fails(t, odd, api.ErrRange, 1, "", 5, 128, 1)
	fails(t, odd, api.ErrRange, 2, "", 5, 128, 1)
}

// P29.1: what Keep and Sync leave, when the power is gone.
func TestKeepErrors(t *testing.T) {
	m := machine(t)
	m, _ = do(t, m, 3, "/file", 128, 5, 0)
	v := cache.View(m)
	for i := range 14 {
		v[60+i] = strings.Repeat("k", 128)
	}
	m, _ = cache.Keep(m, v)
	m.Procs[0].Fds[2].Pos = 1000
	m.Drive.Left = 2
	out, _ := do(t, m, 2, "late", 2, 128, 4)
	if int32(r1(out)) != -int32(api.ErrGone) || out.Drive.Left != 0 || len(out.Dirty) <= 16 || out.Procs[0].Fds[2].Pos != 1000 {
		t.Error(int32(r1(out)), out.Drive.Left, len(out.Dirty))
	}
	out, _ = do(t, m, 13, "")
	if int32(r1(out)) != -int32(api.ErrGone) || out.Drive.Left != 0 || len(out.Drive.Pending) != 2 {
		t.Error(int32(r1(out)))
	}
	m.Drive.Left = -1
	out, _ = do(t, m, 13, "", 5)
	if r1(out) != 0 || len(out.Dirty) != 0 || !slices.Equal(wal.Home(out.Drive), cache.View(m)) {
		t.Error(r1(out))
	}
}

// P29.1
func TestPipes(t *testing.T) {
	m := machine(t)
	p, _ := do(t, m, 5, "")
	if p.Procs[0].Cpu.R[1] != 2 || p.Procs[0].Cpu.R[2] != 3 || p.Procs[0].Fds[2] != (api.Fd{Kind: api.FdFrom, N: 1}) || p.Procs[0].Fds[3] != (api.Fd{Kind: api.FdTo, N: 1}) {
		t.Error(p.Procs[0])
	}
	begin := with(t, p, "", 2, 128, 5)
	out, _ := Do(begin, 1)
	waiting(t, begin, out, api.ForBytes, 1)
	w, _ := do(t, p, 2, strings.Repeat("x", 100), 3, 128, 100)
	if r1(w) != 64 {
		t.Error(r1(w))
	}
	begin = with(t, w, "y", 3, 128, 1)
	out, _ = Do(begin, 2)
	waiting(t, begin, out, api.ForRoom, 1)
	r, _ := do(t, w, 1, strings.Repeat("-", 61), 2, 128, 60)
	if s, _ := mmu.Copy(r.Frames, r.Procs[0].Space, 128, 61); r1(r) != 60 || s != strings.Repeat("x", 60)+"-" {
		t.Errorf("%q", s)
	}
	c, _ := do(t, r, 4, "", 3)
	if c, _ = do(t, c, 1, "", 2, 128, 60); r1(c) != 4 {
		t.Error(r1(c))
	}
	if c, _ = do(t, c, 1, "", 2, 128, 60); r1(c) != 0 {
		t.Error("nobody writes", r1(c))
	}
	if c, _ = do(t, c, 4, "", 2); len(c.Pipes) != 0 {
		t.Error(c.Pipes)
	}
	nobody, _ := do(t, r, 4, "", 2)
	fails(t, nobody, api.ErrPipe, 2, "z", 3, 128, 1)
	tight := p
	tight.NewPipe = 1000000000
	fails(t, tight, api.ErrLimit, 5, "")
	for range 2 {
		p, _ = do(t, p, 5, "")
	}
	fails(t, p, api.ErrLimit, 5, "")
}

// P29.1: spawn and wait.
func TestSpawnWait(t *testing.T) {
	m := machine(t)
	fails(t, m, api.ErrArg, 6, "/prog", 128, 129, 0xffff)
	fails(t, m, api.ErrArg, 6, "/prog", 128, 5, 0x10000)
	fails(t, m, api.ErrFault, 6, "", 300, 5, 0x0909)
	fails(t, m, api.ErrArg, 6, "none", 128, 4, 0xff02)
	fails(t, m, api.ErrArg, 6, "none", 128, 4, 0x08ff)
	fails(t, m, api.ErrName, 6, "none", 128, 4, 0xffff)
	fails(t, m, api.ErrNone, 6, "/none", 128, 5, 0xffff)
	fails(t, m, api.ErrKind, 6, "/dir", 128, 4, 0xffff)
	fails(t, m, api.ErrForm, 6, "/file", 128, 5, 0xffff)
	s, _ := do(t, m, 6, "/prog", 128, 5, 0xff00)
	if p := s.Procs[2]; r1(s) != 3 || p.Parent != 1 || p.Fds[0] != (api.Fd{Kind: api.FdIn}) || p.Fds[1] != (api.Fd{}) {
		t.Error(r1(s), p)
	}
	tight := m
	tight.Frames = m.Frames[:6]
	fails(t, tight, api.ErrFull, 6, "/prog", 128, 5, 0xffff)
	fails(t, m, api.ErrNone, 7, "", 9)
	fails(t, m, api.ErrNone, 7, "", minus)
	begin := with(t, m, "", 2)
	out, _ := Do(begin, 7)
	waiting(t, begin, out, api.ForChild, 2)
	begin = with(t, m, "", 0)
	out, _ = Do(begin, 7)
	waiting(t, begin, out, api.ForChild, 0)
	out, _ = do(t, proc.Die(s, 3, 300), 7, "", 0)
	if p := out.Procs[0]; p.Cpu.R[1] != 3 || p.Cpu.R[2] != 300 || len(out.Procs) != 2 {
		t.Error(p)
	}
}

// P29.1
func TestSmallCalls(t *testing.T) {
	m := machine(t)
	out, _ := do(t, m, 9, "", 7)
	if p := out.Procs[0]; p.State != api.Waits || p.Why != api.ForTime || p.N != 1<<32+12 || p.Cpu.PC != 40 || p.Cpu.R[1] != 0 {
		t.Error(p)
	}
	if out, _ = do(t, m, 9, "", 0); out.Procs[0].State != api.Ready || r1(out) != 0 {
		t.Error("sleep 0")
	}
	late := m
	late.Clock = math.MaxUint64
	if out, _ = do(t, late, 9, "", 3); out.Procs[0].N != 2 {
		t.Error(out.Procs[0].N)
	}
	m.Cur = 2
	if out, _ = do(t, m, 10, ""); r1(out) != 2 {
		t.Error(r1(out))
	}
	m.Cur = 1
	if out, _ = do(t, m, 11, ""); out.Procs[0].Cpu.R[1] != 5 || out.Procs[0].Cpu.R[2] != 1 {
		t.Error(out.Procs[0])
	}
	fails(t, m, api.ErrArg, 14, "", 2)
	if out, _ = do(t, m, 14, "", 1); !out.Procs[0].Mask || r1(out) != 0 {
		t.Error("mask")
	}
	if out, _ = do(t, out, 14, "", 0); out.Procs[0].Mask {
		t.Error("mask")
	}
	fails(t, m, api.ErrLimit, 15, "", minus)
	fails(t, m, api.ErrLimit, 15, "", 14)
	if out, _ = do(t, m, 15, "", 2); r1(out) != 256 || !out.Procs[0].Space[3].Is {
		t.Error(r1(out))
	}
}

// P29.1
func TestRemoveLink(t *testing.T) {
	m := machine(t)
	fails(t, m, api.ErrArg, 16, "/file", 128, 129)
	fails(t, m, api.ErrFault, 16, "", 300, 1)
	fails(t, m, api.ErrNone, 16, "/none", 128, 5)
	fails(t, m, api.ErrBusy, 16, "/", 128, 1)
	open, _ := do(t, m, 3, "/file", 128, 5, 0)
	fails(t, open, api.ErrBusy, 16, "/file", 128, 5)
	out, _ := do(t, m, 16, "/file", 128, 5)
	if _, e := fs.Find(cache.View(out), "/file"); e != api.ErrNone || r1(out) != 0 {
		t.Error(e)
	}
	fails(t, m, api.ErrArg, 18, "", 128, 129)
	fails(t, m, api.ErrFault, 18, "", 2000, 100)
	for text, want := range map[string]api.Errno{"/file": api.ErrForm, "/file  /x": api.ErrForm, "/a /b /c": api.ErrForm, " ": api.ErrName, "/none /x": api.ErrNone, "/dir /x": api.ErrKind, "/file /dir": api.ErrTwice} {
		fails(t, m, want, 18, text, 128, uint32(len(text)))
	}
	out, _ = do(t, m, 18, "/file /dir/x", 128, 12)
	if x, _ := inode.Get(cache.View(out), 2); x.Links != 2 || r1(out) != 0 {
		t.Error(x)
	}
}

// P29.2: other processes' memory and registers stay, whatever is called.
func TestOthers(t *testing.T) {
	m := machine(t)
	m.In = "input"
	x := uint32(1)
	texts := []string{"/file", "/dir", "/prog", "/new", "/file /dir/x", "", "/dir/x"}
	for i := range 1500 {
		x = x*1664525 + 1013904223
		n := x >> 24 % 20
		if n == 0 || n == 8 {
			continue
		}
		text := texts[int(x>>8)%len(texts)]
		begin := with(t, m, text, []uint32{x >> 12 % 5, 128}[i%2], []uint32{128, uint32(len(text))}[i%2], x>>5%70)
		out, _ := Do(begin, n)
		if e := state.Check(out); e != api.OK {
			t.Fatal(i, n, e)
		}
		if j, ok := proc.Find(out, 2); !ok || out.Procs[j] != begin.Procs[1] {
			t.Fatal(i, n, "another process is another one")
		}
		for _, pte := range begin.Procs[1].Space {
			if pte.Is && out.Frames[pte.Frame] != begin.Frames[pte.Frame] {
				t.Fatal(i, n, "another one's page is another one")
			}
		}
		if n != 2 && n != 3 && n != 16 && n != 18 && !slices.Equal(cache.View(out), cache.View(begin)) {
			t.Fatal(i, n, "the volume is another one")
		}
		if out.Procs[0].State == api.Ready {
			m = out
		}
	}
}

// P29.1: what may just be, and what just not.
func TestEdges(t *testing.T) {
	m := machine(t)
	m.In = strings.Repeat("i", 200)
	if out, _ := do(t, m, 1, "", 0, 128, 128); r1(out) != 128 || len(out.In) != 72 {
		t.Error(int32(r1(out)))
	}
	if out, told := do(t, m, 2, "", 1, 128, 128); r1(out) != 128 || len(told) != 128 {
		t.Error(int32(r1(out)))
	}
	fails(t, m, api.ErrName, 3, strings.Repeat("x", 128), 128, 128, 0)
	fails(t, m, api.ErrName, 16, strings.Repeat("x", 128), 128, 128)
	fails(t, m, api.ErrForm, 18, strings.Repeat("x", 128), 128, 128)
	if out, _ := do(t, m, 6, "/prog", 128, 5, 0xffff); r1(out) != 3 {
		t.Error(int32(r1(out)))
	}
	// The numbers from 2^31 on.
	fails(t, m, api.ErrNone, 7, "", 1<<31)
	fails(t, m, api.ErrNone, 7, "", 1<<31-1)
	fails(t, m, api.ErrLimit, 15, "", 1<<31)
	fails(t, m, api.ErrLimit, 15, "", 1<<31-1)
	if out, _ := do(t, m, 15, "", 0); r1(out) != 256 {
		t.Error(r1(out))
	}
	// One free number is enough for a file, and two for a pipe.
	few := m
	few.Procs = slices.Clone(m.Procs)
	for i := 2; i < 6; i++ {
		few.Procs[0].Fds[i] = api.Fd{Kind: api.FdIn}
	}
	if out, _ := do(t, few, 5, ""); out.Procs[0].Cpu.R[1] != 6 || out.Procs[0].Cpu.R[2] != 7 {
		t.Error(out.Procs[0].Fds)
	}
	few.Procs[0].Fds[6] = api.Fd{Kind: api.FdIn}
	fails(t, few, api.ErrLimit, 5, "")
	if out, _ := do(t, few, 3, "/file", 128, 5, 0); r1(out) != 7 {
		t.Error(int32(r1(out)))
	}
	// So many pipes, and numbers of pipes.
	last := m
	last.NewPipe = 999999999
	if out, _ := do(t, last, 5, ""); out.NewPipe != 1000000000 {
		t.Error(out.NewPipe)
	}
	many := m
	many.NewPipe = 200
	for id := 1; id <= 63; id++ {
		many.Pipes = append(slices.Clone(many.Pipes), api.Pipe{Id: id})
	}
	if out, _ := do(t, many, 5, ""); r1(out) != 2 {
		t.Error(int32(r1(out)))
	}
	many.Pipes = append(many.Pipes, api.Pipe{Id: 64})
	fails(t, many, api.ErrLimit, 5, "")
}

// P29.1: an entry whose number is above the volume's inodes.
func TestFarEntry(t *testing.T) {
	m := machine(t)
	v, e := dir.Add(cache.View(m), 1, "far", 60)
	if e == api.OK {
		m, e = cache.Keep(m, v)
	}
	if e != api.OK {
		t.Fatal(e)
	}
	fails(t, m, api.ErrKind, 3, "/far", 128, 4, 3)
	fails(t, m, api.ErrRange, 6, "/far", 128, 4, 0xffff)
	fails(t, m, api.ErrRange, 18, "/far /x", 128, 7)
	if out, _ := do(t, m, 16, "/far", 128, 4); r1(out) != 0 {
		t.Error(int32(r1(out)))
	}
}
