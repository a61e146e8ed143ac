package progs

import (
	"slices"
	"strconv"
	"strings"
	"testing"

	"hibernacle/api"
	"hibernacle/asm"
	"hibernacle/cache"
	"hibernacle/exe"
	"hibernacle/fs"
	"hibernacle/machine"
	"hibernacle/num"
)

func boots(t *testing.T, name string, frames, quantum int) api.Machine {
	t.Helper()
	v, e := Disk(200, 20, Names()...)
	if e != api.OK {
		t.Fatal(e)
	}
	m, e := machine.New(api.Config{Frames: frames, Quantum: quantum, Init: "/" + name}, v)
	if e != api.OK {
		t.Fatal(e)
	}
	return m
}

// plays feeds a program, and runs it as long as it may take.
func plays(t *testing.T, m api.Machine, in string) (string, api.Machine) {
	t.Helper()
	m, e := machine.Feed(m, in, true)
	if e != api.OK {
		t.Fatal(e)
	}
	n := 3000 + 100*len(in)
	if m.Init == "/sh" {
		n += 3000 * (strings.Count(in, "\n") + 1)
	}
	m, told := machine.Run(m, n)
	if len(m.Procs) != 0 {
		t.Error("it goes on still", m.Init)
	}
	return told, m
}

func tells(t *testing.T, name, in, want string) {
	t.Helper()
	frames := 16
	if name == "sh" {
		frames = 32
	}
	for _, quantum := range []int{1, 7, 1000} {
		if got, _ := plays(t, boots(t, name, frames, quantum), in); got != want {
			t.Errorf("%s, fed %.80q: %.200q", name, in, got)
		}
	}
}

// P31.1
func TestCatUp(t *testing.T) {
	every := make([]byte, 256)
	for i := range every {
		every[i] = byte(i)
	}
	long := strings.Repeat(string(every), 4)
	for _, in := range []string{"", "a", "one\ntwo", long} {
		tells(t, "cat", in, in)
	}
	tells(t, "up", "", "")
	tells(t, "up", "az AZ`{@[\xe1\n", "AZ AZ`{@[\xe1\n")
	b := []byte(long)
	for i, c := range b {
		if c >= 'a' && c <= 'z' {
			b[i] = c - 32
		}
	}
	tells(t, "up", long, string(b))
}

// P31.1
func TestKv(t *testing.T) {
	tells(t, "kv", "g a\np a x\ng a\np", "-\nok\nx\n?\n")
	tells(t, "kv", "p z a\np z b\ng z\ng y", "ok\nok\nb\n-\n")
	for _, line := range []string{"", "g", "g ", "g A", "g  a", "g a ", " g a", "p a", "p a x ", "p a  x", "p A x", "p a X", "p_a x", "p a_x", "g_a", "q a x", "g a\x00", "p a {", "g `", strings.Repeat("g a", 20)} {
		tells(t, "kv", line+"\ng b\n", "?\n-\n")
	}
	tells(t, "kv", "", "")
	tells(t, "kv", "\n\n", "?\n?\n")
}

// P31.1: of a long line the first 31 bytes count.
func TestLongLines(t *testing.T) {
	zeros := strings.Repeat("x", 28)
	tells(t, "kv", "g a"+zeros+"\n", "?\n")
	tells(t, "kv", strings.Repeat("y", 4000)+"\ng a", "?\n-\n")
	tells(t, "sh", strings.Repeat("z", 300)+"\n", "?\n")
}

// P31.1
func TestBank(t *testing.T) {
	tells(t, "bank", "s\nb 0\nm 0 7 30\nb 0\nb 7\ns\ny\n", "800\n100\nok\n70\n130\n800\nok\n")
	tells(t, "bank", "m 1 2 101\nm 1 2 0100\nb 1\nm 2 2 200\nb 2\nm 2 3 0\nm 1 0 1", "no\nok\n0\nok\n200\nok\nno\n")
	tells(t, "bank", "m 2 3 9999\n", "no\n")
	for _, line := range []string{"", "m", "m 0 1", "m 0 1 ", "m 0 8 1", "m 8 0 1", "m / 0 1", "m 0 1 12345", "m 0 1 x", "m 0 1 1x", "m 0 1 -1", "m  0 1 1", "m 0 1 1 ", "m_0 1 1", "m 0_1 1", "m 0 1_1", "b", "b 8", "b  0", "b 0 ", "b_0", "s ", "ss", "y ", "yy", "x", "m 0 1 :"} {
		tells(t, "bank", line+"\ns\n", "?\n800\n")
	}
}

// P31.1: the accounts stand in their file.
func TestAccounts(t *testing.T) {
	m := boots(t, "bank", 16, 9)
	_, m = plays(t, m, "")
	if s := accounts(m); s != strings.Repeat("d\x00\x00\x00", 8) {
		t.Errorf("%q", s)
	}
	m.In, m.End = "", false
	v := cache.View(m)
	n, _ := fs.Find(v, "/accounts")
	v, _ = fs.Write(v, n, 0, "\x05\x00\x00\x00\xff\xff\xff\xff")
	again, e := machine.New(api.Config{Frames: 16, Quantum: 9, Init: "/bank"}, v)
	if e != api.OK {
		t.Fatal(e)
	}
	told, again := plays(t, again, "b 0\nb 1\ns\nm 1 0 10\nb 0\n")
	if told != "5\n4294967295\n604\nok\n15\n" {
		t.Errorf("%q", told)
	}
	if s := accounts(again); s[:8] != "\x0f\x00\x00\x00\xf5\xff\xff\xff" || len(s) != 32 {
		t.Errorf("%q", s)
	}
	// An empty file is made anew.
	v, _ = fs.Cut(v, n, 0)
	again, _ = machine.New(api.Config{Frames: 16, Quantum: 9, Init: "/bank"}, v)
	if told, _ := plays(t, again, "s"); told != "800\n" {
		t.Errorf("%q", told)
	}
	// It ends with 1, if a call has an error.
	v, _ = fs.Remove(v, "/accounts")
	v, _, _ = fs.Mkdir(v, "/accounts", 0)
	again, _ = machine.New(api.Config{Frames: 32, Quantum: 9, Init: "/sh"}, v)
	if told, _ := plays(t, again, "bank\n"); told != "1\n" {
		t.Errorf("%q", told)
	}
}

func accounts(m api.Machine) string {
	v := cache.View(m)
	n, e := fs.Find(v, "/accounts")
	if e != api.OK {
		return ""
	}
	s, _ := fs.Read(v, n, 0, 9999)
	return s
}

// P31.1
func TestSh(t *testing.T) {
	tells(t, "sh", "none\n\ncat x\n/\n", "?\n?\n?\n?\n")
	tells(t, "sh", "kv\ng a\np a x\ng a", "-\nok\nx\n0\n")
	tells(t, "sh", "nothing\ncat\nall that\nis behind\n", "?\nall that\nis behind\n0\n")
	tells(t, "sh", "up", "0\n")
	tells(t, "sh", "sh\nsh\nbank\ns\n", "800\n0\n0\n0\n")
	v, _ := Disk(200, 20, "sh", "cat")
	x, _, _ := asm.Make("li r1, 4294967295\nsys 0")
	b, _ := exe.Bytes(x)
	v, n, _ := fs.Create(v, "/bad", 0)
	v, _ = fs.Write(v, n, 0, b)
	m, e := machine.New(api.Config{Frames: 32, Quantum: 4, Init: "/sh"}, v)
	if told, _ := plays(t, m, "bad\nbank\ncat\n!"); e != api.OK || told != "4294967295\n?\n!0\n" {
		t.Errorf("%q", told)
	}
}

// P31.1: what is told, is told before more is read.
func TestLineByLine(t *testing.T) {
	m := boots(t, "kv", 16, 5)
	m, _ = machine.Feed(m, "p a x\ng a\n", false)
	for m.Told < 3 {
		m, _ = machine.Step(m)
	}
	if m.In != "g a\n" {
		t.Errorf("%q", m.In)
	}
}

// P31.2
func TestSizes(t *testing.T) {
	for _, name := range Names() {
		text, ok := Source(name)
		x, is := Exe(name)
		b, e := exe.Bytes(x)
		l, _ := exe.Lay(x)
		if !ok || !is || e != api.OK || len(b) > 2000 || len(l) > 15 || strings.Count(text, "\n") > 400 {
			t.Error(name, len(b), len(l), e)
		}
	}
	if !slices.Equal(Names(), []string{"cat", "up", "kv", "bank", "sh"}) {
		t.Error(Names())
	}
	if s, ok := Source("none"); s != "" || ok {
		t.Error(s)
	}
	if x, ok := Exe(""); ok || x.Text != nil {
		t.Error(x)
	}
}

// P31.2: the disk.
func TestDisk(t *testing.T) {
	v, e := Disk(120, 8, "sh", "cat")
	if e != api.OK || !slices.Equal(fs.Walk(v), []string{"/cat", "/sh"}) {
		t.Error(e)
	}
	for i, c := range []struct {
		blocks, inodes int
		names          []string
		want           api.Errno
	}{{1, 1, []string{"none"}, api.ErrName}, {120, 8, []string{"cat", ""}, api.ErrName}, {1, 8, []string{"cat"}, api.ErrRange}, {120, 8, []string{"cat", "cat"}, api.ErrTwice}, {16, 8, Names(), api.ErrFull}, {120, 4, Names(), api.ErrFull}} {
		if v, e := Disk(c.blocks, c.inodes, c.names...); v != nil || e != c.want {
			t.Error(i, e)
		}
	}
	if v, e := Disk(40, 8); e != api.OK || len(fs.Walk(v)) != 0 {
		t.Error(e)
	}
}

// P31.3, T10
func TestNothingIsLost(t *testing.T) {
	m := boots(t, "bank", 16, 5)
	var in strings.Builder
	for i := range 60 {
		in.WriteString("m " + strconv.Itoa(i%8) + " " + strconv.Itoa(i*3%8) + " " + strconv.Itoa(i*7) + "\n")
		if i%5 == 0 {
			in.WriteString("y\nq\n")
		}
	}
	m, _ = machine.Feed(m, in.String(), true)
	x := uint32(1)
	for len(m.Procs) > 0 {
		m, _ = machine.Step(m)
		whole(t, accounts(m))
		x = x*1664525 + 1013904223
		if x>>16%200 != 0 {
			continue
		}
		gone := m
		gone.Drive.Left = int(x>>8) % 5
		gone, _ = machine.Run(gone, 500)
		gone, e := machine.Crash(gone, []int{int(x >> 4), int(x >> 5), int(x >> 6), 1, 2, 1})
		if e != api.OK {
			t.Fatal(e)
		}
		whole(t, accounts(gone))
	}
}

func whole(t *testing.T, s string) {
	t.Helper()
	if s == "" {
		return
	}
	sum := uint64(0)
	for i := 0; i < 32; i += 4 {
		sum += num.Get(s[i : i+4])
	}
	if len(s) != 32 || sum != 800 {
		t.Fatalf("%q", s)
	}
}
