package image

import (
	"math"
	"slices"
	"strings"
	"testing"

	"hibernacle/api"
	"hibernacle/geom"
	"hibernacle/hash"
	"hibernacle/num"
	"hibernacle/state"
	"hibernacle/wal"
)

// small is a machine with a bit of everything.
func small(t *testing.T) api.Machine {
	t.Helper()
	v, _ := geom.Format(24, 8)
	d, _ := wal.Format(v)
	zeros := strings.Repeat("\x00", 128)
	d.Pending = []api.Write{{Block: 40, Data: strings.Repeat("p", 128)}}
	d.Left = 7
	m := api.Machine{
		Clock: math.MaxUint64, Quantum: 10, Cur: 2, Left: 4, Next: 9, Init: "/x", NewPipe: 8, In: "in", End: true, Told: 99, Drive: d,
		Frames: []string{zeros, strings.Repeat("f", 128), zeros},
		Dirty:  []api.Write{{Block: 9, Data: strings.Repeat("d", 128)}},
		Pipes:  []api.Pipe{{Id: 3, Data: "pipe"}, {Id: 7}},
		Procs: []api.Proc{
			{Pid: 2, State: api.Ready, Cpu: api.Cpu{PC: 8, R: [16]uint32{3: math.MaxUint32}}, Space: api.Space{1: {Is: true, Frame: 2}, 15: {Is: true, Write: true, Frame: 1}}, Fds: [8]api.Fd{{Kind: api.FdIn}, {Kind: api.FdFile, N: 3, Pos: 300}, {Kind: api.FdTo, N: 7}}, Mask: true},
			{Pid: 4, Parent: 2, State: api.Waits, Why: api.ForTime, N: math.MaxUint64},
			{Pid: 6, Parent: 2, State: api.Dead, Code: 258},
		},
	}
	if e := state.Check(m); e != api.OK {
		t.Fatal(e)
	}
	return m
}

func isZero(x api.Image) bool { return x.Frames == nil && x.Blocks == nil && x.Rest == "" }

// P32.1: how Rest is laid out.
func TestRest(t *testing.T) {
	m := small(t)
	x := Of(m)
	l, e := num.Texts(x.Rest)
	if e != api.OK || len(l) != 16 {
		t.Fatal(e, len(l))
	}
	want := []string{"hib2", strings.Repeat("\xff", 8), "10", "2", "4", "9", "/x", "8", "in", "1", "\x63" + strings.Repeat("\x00", 7), "7", num.Row(num.Row("40", strings.Repeat("p", 128))), num.Row(num.Row("9", strings.Repeat("d", 128))), num.Row(num.Row("3", "pipe"), num.Row("7", ""))}
	if !slices.Equal(l[:15], want) {
		t.Errorf("%q", l[:15])
	}
	procs, _ := num.Texts(l[15])
	p, _ := num.Texts(procs[0])
	fd := func(kind, n, pos int) string {
		return num.Put(uint64(kind), 1) + num.Put(uint64(n), 8) + num.Put(uint64(pos), 8)
	}
	want = []string{
		"2", "0", "1", strings.Repeat("\x00", 12) + "\xff\xff\xff\xff" + strings.Repeat("\x00", 48) + "\x08\x00\x00\x00", "\x00\x00\x01\x02" + strings.Repeat("\x00", 26) + "\x02\x01",
		fd(1, 0, 0) + fd(3, 3, 300) + fd(5, 7, 0) + strings.Repeat("\x00", 17*5), "1", "\x00\x00\x00\x00", "0", strings.Repeat("\x00", 8),
	}
	if len(procs) != 3 || !slices.Equal(p, want) {
		t.Errorf("%q", p)
	}
	if !isZero(Of(api.Machine{})) {
		t.Error("a machine that may not be")
	}
}

// P32.1, P32.2
func TestThereAndBack(t *testing.T) {
	m := small(t)
	x := Of(m)
	got, e := Machine(x)
	if e != api.OK || !same(Of(got), x) || !slices.Equal(got.Procs, m.Procs) || !slices.Equal(got.Pipes, m.Pipes) || !slices.Equal(got.Drive.Pending, m.Drive.Pending) || got.Clock != m.Clock || got.Init != "/x" {
		t.Error(e)
	}
	b := Bytes(x)
	if b != num.Row("hibi", num.Row(x.Frames...), num.Row(x.Blocks...), x.Rest) || Sum(x) != hash.Sum(b) {
		t.Error("bytes")
	}
	if y, e := Read(b); e != api.OK || !same(x, y) {
		t.Error(e)
	}
	odd := api.Image{Frames: []string{"", "x"}, Blocks: []string{""}, Rest: "\xff"}
	if y, e := Read(Bytes(odd)); e != api.OK || !same(odd, y) {
		t.Error(e)
	}
}

// P32.1
func TestReadWrong(t *testing.T) {
	b := Bytes(Of(small(t)))
	for i, bad := range []string{"", "x", b[:len(b)-1], b + "\x00", num.Row("hibj", "", "", ""), num.Row("hibi", "", ""), num.Row("hibi", "\x05", "", ""), num.Row("hibi", "", "\x80\x00", ""), num.Row("hibi", "", "", "", "")} {
		if x, e := Read(bad); e != api.ErrForm || !isZero(x) {
			t.Error(i, e)
		}
	}
}

// P32.1: what isn't laid out so, and machines that may not be.
func TestMachineWrong(t *testing.T) {
	x := Of(small(t))
	l, _ := num.Texts(x.Rest)
	with := func(i int, s string) api.Image {
		y := x
		k := slices.Clone(l)
		k[i] = s
		y.Rest = num.Row(k...)
		return y
	}
	procs, _ := num.Texts(l[15])
	proc := func(i int, s string) api.Image {
		p, _ := num.Texts(procs[0])
		p[i] = s
		return with(15, num.Row(num.Row(p...), procs[1], procs[2]))
	}
	short := x
	short.Rest = x.Rest[:len(x.Rest)-1]
	more := x
	more.Rest += num.Row("")
	frames := x
	frames.Frames = nil
	blocks := x
	blocks.Blocks = blocks.Blocks[:30]
	for i, c := range []struct {
		x    api.Image
		want api.Errno
	}{
		{api.Image{}, api.ErrForm}, {short, api.ErrForm}, {more, api.ErrForm}, {with(0, "hib1"), api.ErrForm}, {with(1, "1234567"), api.ErrForm}, {with(2, "010"), api.ErrForm}, {with(2, "+1"), api.ErrForm}, {with(9, "2"), api.ErrForm}, {with(9, "\x01"), api.ErrForm},
		{with(12, "x"), api.ErrForm}, {with(12, num.Row(num.Row("1"))), api.ErrForm}, {with(13, num.Row(num.Row("1", "x", "y"))), api.ErrForm}, {with(14, num.Row(num.Row("x", "y"))), api.ErrForm}, {with(15, num.Row("")), api.ErrForm},
		{proc(3, "x"), api.ErrForm}, {proc(4, strings.Repeat("\x03\x00", 16)), api.ErrForm}, {proc(5, strings.Repeat("x", 135)), api.ErrForm}, {proc(6, "yes"), api.ErrForm}, {proc(7, "xxx"), api.ErrForm}, {proc(9, "x"), api.ErrForm}, {proc(0, "0"), api.ErrForm},
		{with(2, "0"), api.ErrRange}, {with(6, strings.Repeat("x", 129)), api.ErrLimit}, {frames, api.ErrLimit}, {blocks, api.ErrRange},
	} {
		if m, e := Machine(c.x); e != c.want || m.Frames != nil || m.Quantum != 0 {
			t.Error(i, e)
		}
	}
	// A page that isn't, and has a frame, isn't laid out so: that comes ahead of all else.
	bad := proc(4, "\x00\x01"+strings.Repeat("\x00", 30))
	bad.Frames = nil
	if _, e := Machine(bad); e != api.ErrForm {
		t.Error(e)
	}
}

// P32.3
func TestUnlike(t *testing.T) {
	seen := map[string]bool{Bytes(Of(small(t))): true}
	n := 1
	for i, turn := range []func(m *api.Machine){
		func(m *api.Machine) { m.Clock-- }, func(m *api.Machine) { m.Quantum++ }, func(m *api.Machine) { m.Cur++ }, func(m *api.Machine) { m.Left++ }, func(m *api.Machine) { m.Frames[0] = m.Frames[1] }, func(m *api.Machine) { m.Frames = append(m.Frames, m.Frames[0]) },
		func(m *api.Machine) { m.Procs[0].Mask = false }, func(m *api.Machine) { m.Procs[0].Cpu.PC++ }, func(m *api.Machine) { m.Procs[0].Space[1].Write = true }, func(m *api.Machine) { m.Procs[0].Fds[1].Pos++ }, func(m *api.Machine) { m.Procs[1].N-- }, func(m *api.Machine) { m.Procs[1].Why = 1 },
		func(m *api.Machine) { m.Procs[2].Code++ }, func(m *api.Machine) { m.Procs = m.Procs[:2] }, func(m *api.Machine) { m.Next++ }, func(m *api.Machine) { m.Init = "/xi" }, func(m *api.Machine) { m.Pipes[0].Data = "pip" }, func(m *api.Machine) { m.NewPipe++ },
		func(m *api.Machine) { m.In = "n" }, func(m *api.Machine) { m.End = false }, func(m *api.Machine) { m.Told++ }, func(m *api.Machine) { m.Drive.Left = -2 }, func(m *api.Machine) { m.Drive.Pending = nil }, func(m *api.Machine) { m.Drive.Blocks[9] = m.Frames[1] }, func(m *api.Machine) { m.Dirty = nil },
	} {
		m := small(t)
		turn(&m)
		if e := state.Check(m); e != api.OK {
			t.Fatal(i, e)
		}
		n++
		seen[Bytes(Of(m))] = true
		if len(seen) != n {
			t.Fatal(i, "alike")
		}
	}
}
