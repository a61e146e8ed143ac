package resize

import (
	"slices"
	"strconv"
	"strings"
	"testing"

	"hibernacle/api"
	"hibernacle/cache"
	"hibernacle/dir"
	"hibernacle/extent"
	"hibernacle/fs"
	"hibernacle/fsck"
	"hibernacle/geom"
	"hibernacle/inode"
	"hibernacle/machine"
	"hibernacle/progs"
	"hibernacle/quota"
	"hibernacle/xattr"
)

// volume has files with holes, names, attributes, limits, and a directory with numbers of its own.
func volume(t *testing.T) []string {
	t.Helper()
	v, e := fs.Make(150, 64)
	do := func(out []string, f api.Errno) {
		if f != api.OK {
			t.Helper()
			t.Fatal(f)
		}
		v = out
	}
	do(v, e)
	made := func(out []string, n int, f api.Errno) int {
		do(out, f)
		return n
	}
	do(fs.SetAttr(v, 1, "top", "yes"))
	n := made(fs.Create(v, "/gone", 0))
	do(fs.Write(v, n, 0, strings.Repeat("z", 900)))
	n = made(fs.Create(v, "/file", 3))
	do(fs.Write(v, n, 500, "some bytes"))
	do(fs.Write(v, n, 1300, strings.Repeat("q", 200)))
	do(fs.Cut(v, n, 8000))
	do(fs.SetAttr(v, n, "b", "1"))
	do(fs.SetAttr(v, n, "a", "2"))
	made(fs.Mkdir(v, "/dir", 2))
	for i := range 28 {
		made(fs.Create(v, "/dir/"+strconv.Itoa(i), i%16))
	}
	made(fs.Mkdir(v, "/dir/sub", 5))
	do(fs.Link(v, "/file", "/dir/sub/again"))
	do(fs.Link(v, "/file", "/aaa"))
	n = made(fs.Create(v, "/empty", 4))
	do(fs.Write(v, n, 0, "to be cut"))
	do(fs.Cut(v, n, 0))
	do(fs.Remove(v, "/gone"))
	do(quota.Set(v, 3, 9))
	do(quota.Set(v, 15, 500))
	x, _ := inode.Get(v, 1)
	x.Owner = 77
	do(inode.Put(v, 1, x))
	if l := fsck.Look(v); l != nil {
		t.Fatal(l)
	}
	return v
}

// same tells whether two volumes have the same things.
func same(t *testing.T, a, b []string) {
	t.Helper()
	paths := append(fs.Walk(a), "/")
	if !slices.Equal(paths, append(fs.Walk(b), "/")) {
		t.Fatal("paths")
	}
	other := map[int]int{}
	for _, path := range paths {
		n, _ := fs.Find(a, path)
		m, _ := fs.Find(b, path)
		if was, ok := other[n]; ok && was != m {
			t.Fatal(path, "links")
		}
		other[n] = m
		x, _ := inode.Get(a, n)
		y, _ := inode.Get(b, m)
		s, _ := extent.Read(a, n, 0, 9999)
		r, _ := extent.Read(b, m, 0, 9999)
		k, _ := xattr.List(a, n)
		l, _ := xattr.List(b, m)
		if x.Kind != y.Kind || x.Owner != y.Owner || x.Links != y.Links || min(x.Size, 8960) != y.Size || x.Kind == api.IsFile && r != s || !slices.Equal(k, l) {
			t.Fatal(path, x, y)
		}
		p, q := extent.Blocks(a, n), extent.Blocks(b, m)
		for i := range p {
			if x.Kind == api.IsFile && (p[i] < 0) != (q[i] < 0) {
				t.Fatal(path, "holes")
			}
		}
	}
	for i := range 16 {
		x, _ := quota.Limit(a, i)
		y, _ := quota.Limit(b, i)
		if x != y {
			t.Fatal("limits")
		}
	}
}

// P55.1, P55.2
func TestCopy(t *testing.T) {
	v := volume(t)
	for _, size := range [][2]int{{150, 64}, {223, 40}, {80, 64}} {
		c, e := Copy(v, size[0], size[1])
		if e != api.OK || len(c) != size[0] || fsck.Look(c) != nil {
			t.Fatal(size, e, fsck.Look(c))
		}
		same(t, v, c)
		if Fits(v, size[0], size[1]) != api.OK {
			t.Error(size)
		}
	}
}

// P55.3
func TestNeeds(t *testing.T) {
	v := volume(t)
	blocks, inodes := Needs(v)
	if inodes != 33 {
		t.Error(blocks, inodes)
	}
	for b := 16; b < 100; b++ {
		g, e := geom.Plan(b, 40)
		fits := e == api.OK && b-g.Data >= blocks
		if f := Fits(v, b, 40); (f == api.OK) != fits || f != api.OK && f != api.ErrFull {
			t.Error(b, f)
		}
	}
	for n := 4; n <= 64; n++ {
		if f := Fits(v, 200, n); (f == api.OK) != (n >= inodes) {
			t.Error(n, f)
		}
	}
	fresh, _ := fs.Make(24, 8)
	if b, n := Needs(fresh); b != 0 || n != 1 {
		t.Error(b, n)
	}
	c, e := Copy(fresh, 40, 8)
	want, _ := fs.Make(40, 8)
	if e != api.OK || !slices.Equal(c, want) {
		t.Error(e)
	}
}

// P55.1: errors, in their order.
func TestErrors(t *testing.T) {
	v := volume(t)
	taken, _, _ := geom.Take(v)
	deep, _ := fs.Make(60, 20)
	path := ""
	for range 8 {
		path += "/x"
		deep, _, _ = fs.Mkdir(deep, path, 0)
	}
	n, _ := fs.Find(deep, path)
	if Fits(deep, 60, 20) != api.OK {
		t.Error("so deep it may be")
	}
	below, f, _ := inode.New(deep, api.IsFile, 0)
	below, _ = dir.Add(below, n, "y", f)
	if l := fsck.Look(below); l != nil {
		t.Fatal(l)
	}
	owned := v
	o, _ := fs.Find(v, "/empty")
	x, _ := inode.Get(v, o)
	x.Owner = 16
	owned, _ = inode.Put(owned, o, x)
	for i, c := range []struct {
		v              []string
		blocks, inodes int
		want           api.Errno
	}{
		{nil, 1, 1, api.ErrForm}, {taken, 1, 1, api.ErrForm}, {below, 1, 1, api.ErrForm}, {below, 60, 20, api.ErrForm}, {v, 1, 1, api.ErrRange}, {v, 16, 64, api.ErrFull}, {v, 36, 40, api.ErrFull}, {v, 150, 20, api.ErrFull}, {owned, 150, 64, api.ErrArg},
	} {
		if out, e := Copy(c.v, c.blocks, c.inodes); e != c.want || out != nil {
			t.Error(i, e)
		}
		if e := Fits(c.v, c.blocks, c.inodes); e != c.want {
			t.Error(i, e)
		}
	}
	for i, bad := range [][]string{nil, taken, below} {
		if b, n := Needs(bad); b != 0 || n != 0 {
			t.Error(i, b, n)
		}
	}
	a, b := Needs(owned)
	if c, d := Needs(v); a != c || b != d {
		t.Error("an owner that Create refuses counts")
	}
}

// P55.4
func TestAlike(t *testing.T) {
	v := volume(t)
	c, _ := Copy(v, 120, 50)
	again, e := Copy(c, 120, 50)
	if e != api.OK || !slices.Equal(again, c) {
		t.Error(e)
	}
	other, _ := Copy(v, 90, 40)
	if back, e := Copy(other, 120, 50); e != api.OK || !slices.Equal(back, c) {
		t.Error(e)
	}
}

// P55.1, T16
func TestMachine(t *testing.T) {
	v, _ := progs.Disk(120, 8, "bank")
	m, _ := machine.New(api.Config{Frames: 20, Quantum: 5, Init: "/bank"}, v)
	m, _ = machine.Feed(m, "m 1 2 30\n", false)
	m, _ = machine.Run(m, 800)
	r, e := Machine(m, 60, 16)
	if e != api.OK || len(r.Frames) != 20 || r.Quantum != 5 || r.Clock != 0 || len(cache.View(r)) != 60 {
		t.Fatal(e)
	}
	same(t, cache.View(m), cache.View(r))
	r, _ = machine.Feed(r, "b 1\nb 2\n", true)
	if _, told := machine.Run(r, 3000); told != "70\n130\n" {
		t.Errorf("%q", told)
	}
	for i, c := range []struct {
		m      api.Machine
		blocks int
		want   api.Errno
	}{{api.Machine{}, 1, api.ErrRange}, {m, 1, api.ErrRange}, {m, 16, api.ErrFull}} {
		if r, e := Machine(c.m, c.blocks, 16); e != c.want || r.Frames != nil {
			t.Error(i, e)
		}
	}
	m.Init = "/none"
	if r, e := Machine(m, 60, 16); e != api.ErrNone || r.Frames != nil {
		t.Error(e)
	}
}

// P55.3: directories and files at the edge of what has no block of numbers.
func TestNumbers(t *testing.T) {
	for n := 22; n <= 27; n++ {
		v, _ := fs.Make(150, 40)
		v, _, _ = fs.Mkdir(v, "/d", 0)
		for i := range n {
			v, _, _ = fs.Create(v, "/d/"+strconv.Itoa(i), 0)
		}
		v, f, _ := fs.Create(v, "/f", 0)
		v, _ = fs.Write(v, f, 0, strings.Repeat("x", 128*(n-18)))
		blocks, inodes := Needs(v)
		g, _ := geom.Plan(150, inodes)
		if Fits(v, g.Data+blocks, inodes) != api.OK || Fits(v, g.Data+blocks-1, inodes) != api.ErrFull || Fits(v, 200, inodes-1) != api.ErrFull {
			t.Error(n, blocks, inodes)
		}
	}
}
