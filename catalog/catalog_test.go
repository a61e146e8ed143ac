package catalog

import (
	"slices"
	"strings"
	"testing"

	"hibernacle/api"
	"hibernacle/cache"
	"hibernacle/dir"
	"hibernacle/fs"
	"hibernacle/hash"
	"hibernacle/image"
	"hibernacle/inode"
	"hibernacle/machine"
	"hibernacle/num"
	"hibernacle/progs"
)

// boots has /kv, /a (x, owner 3), /a.b, /d, /d/f.
func boots(t *testing.T) api.Machine {
	t.Helper()
	v, _ := progs.Disk(150, 16, "kv")
	v, n, _ := fs.Create(v, "/a", 3)
	v, _ = fs.Write(v, n, 0, "x")
	v, _ = fs.Link(v, "/a", "/a.b")
	v, _, _ = fs.Mkdir(v, "/d", 1)
	v, _, _ = fs.Create(v, "/d/f", 2)
	v, _ = dir.Add(v, 1, "free", 12)
	v, _ = dir.Add(v, 1, "none", 60)
	m, e := machine.New(api.Config{Frames: 16, Quantum: 5, Init: "/kv"}, v)
	if e != api.OK {
		t.Fatal(e)
	}
	return m
}

func of(t *testing.T, m api.Machine) []api.File {
	t.Helper()
	l, e := Of(image.Of(m))
	if e != api.OK {
		t.Fatal(e)
	}
	return l
}

// P53.1
func TestOf(t *testing.T) {
	m := boots(t)
	l := of(t, m)
	var paths []string
	for _, f := range l {
		paths = append(paths, f.Path)
	}
	if !slices.Equal(paths, []string{"/a", "/a.b", "/d", "/d/f", "/free", "/kv", "/none"}) {
		t.Error(paths)
	}
	for i, want := range map[int]api.File{
		0: {Path: "/a", Kind: 1, Size: 1, Links: 2, Owner: 3, Ino: 3, Sum: hash.Sum("x")}, 2: {Path: "/d", Kind: 2, Size: 32, Links: 1, Owner: 1, Ino: 4}, 3: {Path: "/d/f", Kind: 1, Links: 1, Owner: 2, Ino: 5, Sum: hash.Sum()}, 4: {Path: "/free", Ino: 12}, 6: {Path: "/none", Ino: 60},
	} {
		if l[i] != want {
			t.Error(l[i])
		}
	}
	if l, e := Of(api.Image{}); e != api.ErrForm || l != nil {
		t.Error(e)
	}
	// What is kept back counts.
	v, _ := fs.Write(cache.View(m), 3, 0, "yy")
	m, _ = cache.Keep(m, v)
	if f, ok := Find(of(t, m), "/a"); !ok || f.Size != 2 || f.Sum != hash.Sum("yy") {
		t.Error(f)
	}
}

// P53.2, P53.4
func TestBytes(t *testing.T) {
	l := of(t, boots(t))
	b, e := Bytes(l)
	sum := hash.Sum("x")
	if e != api.OK || !strings.HasPrefix(b, num.Row("hibc", num.Row("/a", "1", "1", "2", "3", "3", string(sum[:])))) {
		t.Errorf("%q", b)
	}
	if got, e := Read(b); e != api.OK || !slices.Equal(got, l) {
		t.Error(e)
	}
	if b, e := Bytes(nil); e != api.OK || b != num.Row("hibc") {
		t.Error(e)
	}
	if got, e := Read(num.Row("hibc")); e != api.OK || got != nil {
		t.Error(e)
	}
	for i, bad := range [][]api.File{{{}}, {{Path: strings.Repeat("x", 251)}}, {{Path: "b"}, {Path: "a"}}, {{Path: "a"}, {Path: "a"}}, {{Path: "a", Size: -1}}, {{Path: "a", Ino: 1<<40 + 1}}, {{Path: "a", Kind: -1}}} {
		if b, e := Bytes(bad); e != api.ErrForm || b != "" {
			t.Error(i, e)
		}
	}
	if _, e := Bytes([]api.File{{Path: strings.Repeat("x", 250), Owner: 1 << 40}}); e != api.OK {
		t.Error(e)
	}
	row := func(l ...string) string { return num.Row("hibc", num.Row(l...)) }
	z := strings.Repeat("\x00", 32)
	for bad, want := range map[string]api.Errno{
		"": api.ErrForm, "\x09": api.ErrShort, num.Row("hibd"): api.ErrForm, row("a", "1", "1", "1", "1", "1"): api.ErrForm, row("a", "1", "1", "1", "1", "1", z+"x"): api.ErrForm, row("a", "01", "1", "1", "1", "1", z): api.ErrForm, row("a", "-1", "1", "1", "1", "1", z): api.ErrForm,
		row("", "1", "1", "1", "1", "1", z): api.ErrForm, num.Row("hibc", "\x05"): api.ErrForm, b[:len(b)-1]: api.ErrShort, "\x80\x00": api.ErrForm, num.Row("hibc", num.Row("b", "1", "1", "1", "1", "1", z), num.Row("a", "1", "1", "1", "1", "1", z)): api.ErrForm,
	} {
		if got, e := Read(bad); e != want || got != nil {
			t.Errorf("%q: %d", bad, e)
		}
	}
}

// P53.3, P53.4
func TestFindDiff(t *testing.T) {
	a := []api.File{{Path: "b", Size: 1}, {Path: "a", Ino: 1}, {Path: "b", Size: 2}, {Path: "c"}}
	b := []api.File{{Path: "a", Ino: 2}, {Path: "b", Size: 2}, {Path: "0"}, {Path: "d"}, {Path: "d"}}
	if f, ok := Find(a, "b"); !ok || f.Size != 1 {
		t.Error(f)
	}
	if f, ok := Find(a, "x"); ok || f != (api.File{}) {
		t.Error(f)
	}
	want := []string{"0", "b", "c", "d"}
	if l := Diff(a, b); !slices.Equal(l, want) {
		t.Error(l)
	}
	if l := Diff(b, a); !slices.Equal(l, want) {
		t.Error(l)
	}
	if Diff(a, a) != nil || Diff(nil, nil) != nil {
		t.Error("with itself")
	}
	for i, f := range []api.File{{Path: "p", Kind: 1}, {Path: "p", Size: 1}, {Path: "p", Links: 1}, {Path: "p", Owner: 1}, {Path: "p", Sum: api.Digest{1}}} {
		if l := Diff([]api.File{{Path: "p"}}, []api.File{f}); !slices.Equal(l, []string{"p"}) {
			t.Error(i, l)
		}
	}
	m := boots(t)
	for _, f := range of(t, m) {
		v := cache.View(m)
		n, e := fs.Find(v, f.Path)
		if e != api.OK || n != f.Ino {
			t.Error(f.Path, e)
		}
	}
}

// P53.3
func TestOn(t *testing.T) {
	l := []api.Ref{{Machine: "m", N: 1, At: 100}, {Machine: "m", N: 2, At: 1439}, {Machine: "m", N: 3, At: 1439, Name: "first"}, {Machine: "m", N: 3, At: 1439, Name: "second"}, {Machine: "k", N: 9, At: 1400}, {Machine: "m", N: 4, At: 1440}, {Machine: "m", N: 5, At: -1}}
	for minute, want := range map[int64]api.Ref{0: l[2], 1439: l[2], 1440: l[5], 99999: l[5], -1: l[6]} {
		if got, ok := On(l, "m", minute); !ok || got != want {
			t.Error(minute, got)
		}
	}
	for _, c := range []struct {
		machine string
		minute  int64
	}{{"m", -1441}, {"x", 0}, {"k", -1}} {
		if got, ok := On(l, c.machine, c.minute); ok || got != (api.Ref{}) {
			t.Error(c, got)
		}
	}
}

// P53.1: of a free inode nothing is told but its number.
func TestFree(t *testing.T) {
	m := boots(t)
	v, e := inode.Put(cache.View(m), 12, api.Inode{Links: 3, Owner: 4, Size: 5})
	if e == api.OK {
		m, e = cache.Keep(m, v)
	}
	if f, ok := Find(of(t, m), "/free"); e != api.OK || !ok || f != (api.File{Path: "/free", Ino: 12}) {
		t.Error(f, e)
	}
	if b, e := Bytes([]api.File{{Path: "a"}}); e != api.OK || b == "" {
		t.Error(e)
	}
}
