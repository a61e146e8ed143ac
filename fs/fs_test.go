package fs

import (
	"math"
	"slices"
	"strconv"
	"strings"
	"testing"

	"hibernacle/api"
	"hibernacle/dir"
	"hibernacle/extent"
	"hibernacle/geom"
	"hibernacle/inode"
	"hibernacle/quota"
)

// volume has /f, /d, /d/g, and /d/e; their inodes are 2 to 5.
func volume(t *testing.T) []string {
	t.Helper()
	v, e := Make(100, 16)
	if e == api.OK {
		v, _, e = Create(v, "/f", 1)
	}
	if e == api.OK {
		v, _, e = Mkdir(v, "/d", 2)
	}
	if e == api.OK {
		v, _, e = Create(v, "/d/g", 3)
	}
	if e == api.OK {
		v, _, e = Mkdir(v, "/d/e", 0)
	}
	if e != api.OK {
		t.Fatal(e)
	}
	return v
}

// P23.1
func TestMake(t *testing.T) {
	v, e := Make(24, 4)
	if x, _ := inode.Get(v, 1); e != api.OK || x != (api.Inode{Kind: 2, Links: 1}) || Walk(v) != nil {
		t.Error(e)
	}
	v, n, e := Create(v, "/a", 0)
	if n != 2 || e != api.OK || !slices.Equal(Walk(v), []string{"/a"}) {
		t.Error(n, e)
	}
	v, e = Remove(v, "/a")
	if e != api.OK || Walk(v) != nil {
		t.Error(e)
	}
	if v, e := Make(15, 4); v != nil || e != api.ErrRange {
		t.Error(e)
	}
	if v, e := Make(16, 60); v != nil || e != api.ErrFull {
		t.Error(e)
	}
}

// P23.1
func TestFind(t *testing.T) {
	v := volume(t)
	deep := strings.Repeat("/x", 8)
	for path, want := range map[string]struct {
		n int
		e api.Errno
	}{
		"/": {1, 0}, "/f": {2, 0}, "/d/g": {4, 0}, "": {0, api.ErrName}, "f": {0, api.ErrName}, "/f/": {0, api.ErrName}, "//": {0, api.ErrName}, "/..": {0, api.ErrName}, deep: {0, api.ErrNone}, deep + "/x": {0, api.ErrName},
		"/f/x": {0, api.ErrKind}, "/d/x": {0, api.ErrNone}, "/none/g": {0, api.ErrNone}, "/" + strings.Repeat("x", 25): {0, api.ErrName},
	} {
		if n, e := Find(v, path); n != want.n || e != want.e {
			t.Error(path, n, e)
		}
	}
	if n, e := Find(nil, "/"); n != 1 || e != api.OK {
		t.Error(e)
	}
	if n, e := Find(nil, "/a"); n != 0 || e != api.ErrForm {
		t.Error(e)
	}
}

// P23.1
func TestCreateErrors(t *testing.T) {
	v := volume(t)
	for _, c := range []struct {
		path  string
		owner int
		want  api.Errno
	}{
		{"x", 0, api.ErrName}, {"/", 99, api.ErrTwice}, {"/none/x", 99, api.ErrNone}, {"/f/x", 0, api.ErrKind}, {"/d", 99, api.ErrTwice}, {"/x", 16, api.ErrArg}, {"/x", -1, api.ErrArg},
	} {
		if out, n, e := Create(v, c.path, c.owner); out != nil || n != 0 || e != c.want {
			t.Error(c, e)
		}
		if out, n, e := Mkdir(v, c.path, c.owner); out != nil || n != 0 || e != c.want {
			t.Error(c, e)
		}
	}
	if _, _, e := Create(nil, "/", 0); e != api.ErrTwice {
		t.Error(e)
	}
	if _, _, e := Create(nil, "/a", 0); e != api.ErrForm {
		t.Error(e)
	}
	small, _ := Make(24, 4)
	for i := range 3 {
		small, _, _ = Create(small, "/"+strconv.Itoa(i), 0)
	}
	if out, _, e := Create(small, "/x", 0); out != nil || e != api.ErrFull {
		t.Error(e)
	}
}

// P23.1
func TestLink(t *testing.T) {
	v := volume(t)
	out, e := Link(v, "/f", "/d/h")
	if x, _ := inode.Get(out, 2); e != api.OK || x.Links != 2 {
		t.Error(e)
	}
	if n, _ := Find(out, "/d/h"); n != 2 {
		t.Error(n)
	}
	out, _ = Remove(out, "/f")
	if x, _ := inode.Get(out, 2); x.Links != 1 || x.Kind != 1 {
		t.Error(x)
	}
	for _, c := range []struct {
		path, to string
		want     api.Errno
	}{
		{"/none", "x", api.ErrName}, {"x", "/none/x", api.ErrName}, {"/none", "/", api.ErrNone}, {"/d", "/", api.ErrKind}, {"/", "/x", api.ErrKind}, {"/f", "/", api.ErrTwice}, {"/f", "/none/x", api.ErrNone}, {"/f", "/f", api.ErrTwice}, {"/f", "/f/x", api.ErrKind},
	} {
		if out, e := Link(v, c.path, c.to); out != nil || e != c.want {
			t.Error(c, e)
		}
	}
	x, _ := inode.Get(v, 2)
	x.Links = 65535
	many, _ := inode.Put(v, 2, x)
	if _, e := Link(many, "/f", "/x"); e != api.ErrLimit {
		t.Error(e)
	}
	if _, e := Link(many, "/f", "/d"); e != api.ErrTwice {
		t.Error(e)
	}
	odd, _ := dir.Add(v, 1, "odd", 64)
	if _, e := Link(odd, "/odd", "/x"); e != api.ErrRange {
		t.Error(e)
	}
}

// P23.1
func TestRemove(t *testing.T) {
	v := volume(t)
	for path, want := range map[string]api.Errno{"x": api.ErrName, "/": api.ErrBusy, "/d": api.ErrBusy, "/none": api.ErrNone, "/f/x": api.ErrKind} {
		if out, e := Remove(v, path); out != nil || e != want {
			t.Error(path, e)
		}
	}
	bent, _ := extent.Write(v, 5, 0, "x")
	if _, e := Remove(bent, "/d/e"); e != api.ErrBusy {
		t.Error(e)
	}
	v, _ = Write(v, 4, 0, strings.Repeat("y", 2000))
	v, _ = SetAttr(v, 4, "a", "b")
	room := geom.Room(v)
	out, e := Remove(v, "/d/g")
	if x, _ := inode.Get(out, 4); e != api.OK || x != (api.Inode{}) || geom.Room(out) != room+18 {
		t.Error(e, geom.Room(out)-room)
	}
	out, e = Remove(out, "/d/e")
	if e != api.OK {
		t.Error(e)
	}
	if out, e = Remove(out, "/d"); e != api.OK || !slices.Equal(Walk(out), []string{"/f"}) {
		t.Error(e)
	}
	// A number above the volume's inodes is no inode: its name goes.
	odd, _ := dir.Add(v, 1, "odd", 64)
	if out, e := Remove(odd, "/odd"); e != api.OK || len(Walk(out)) != 4 {
		t.Error(e)
	}
	free, _ := dir.Add(v, 1, "free", 9)
	free, _ = inode.Put(free, 9, api.Inode{Links: 2})
	out, e = Remove(free, "/free")
	if x, _ := inode.Get(out, 9); e != api.OK || x.Links != 1 {
		t.Error(e, x)
	}
}

// P23.1
func TestRename(t *testing.T) {
	v := volume(t)
	for _, c := range []struct {
		from, to string
		want     api.Errno
	}{
		{"/none", "x", api.ErrName}, {"x", "/", api.ErrName}, {"/none", "/", api.ErrNone}, {"/", "/", api.ErrBusy}, {"/f", "/", api.ErrTwice}, {"/f", "/f", api.ErrTwice}, {"/f", "/d/g", api.ErrTwice}, {"/d", "/d/x", api.ErrBusy}, {"/d", "/d/e/x", api.ErrBusy}, {"/d", "/d/none/x", api.ErrNone}, {"/f", "/f/x", api.ErrKind},
	} {
		if out, e := Rename(v, c.from, c.to); out != nil || e != c.want {
			t.Error(c, e)
		}
	}
	v, _ = Write(v, 4, 0, "hello")
	out, e := Rename(v, "/d", "/dd")
	if e != api.OK || !slices.Equal(Walk(out), []string{"/dd", "/dd/e", "/dd/g", "/f"}) {
		t.Error(e, Walk(out))
	}
	if s, _ := Read(out, 4, 0, 99); s != "hello" {
		t.Error(s)
	}
	if out, e := Rename(v, "/d/g", "/g"); e != api.OK || !slices.Equal(Walk(out), []string{"/d", "/d/e", "/f", "/g"}) {
		t.Error(e)
	}
}

// P23.1
func TestFiles(t *testing.T) {
	v := volume(t)
	for n, want := range map[int]api.Errno{0: api.ErrRange, 17: api.ErrRange, math.MinInt: api.ErrRange, 1: api.ErrKind, 3: api.ErrKind, 9: api.ErrKind} {
		if s, e := Read(v, n, -1, -1); s != "" || e != want {
			t.Error(n, e)
		}
		if out, e := Write(v, n, -1, ""); out != nil || e != want {
			t.Error(n, e)
		}
		if out, e := Cut(v, n, -1); out != nil || e != want {
			t.Error(n, e)
		}
	}
	if _, e := Read(v, 2, -1, 0); e != api.ErrArg {
		t.Error(e)
	}
	if _, e := Cut(v, 2, 9000); e != api.ErrLimit {
		t.Error(e)
	}
	if _, e := SetAttr(v, 9, "a", "b"); e != api.ErrNone {
		t.Error(e)
	}
}

// P23.1: a walk goes into no directory twice, and no deeper than a path may be.
func TestWalk(t *testing.T) {
	v := volume(t)
	v, _ = dir.Add(v, 5, "again", 3)
	v, _ = dir.Add(v, 5, "top", 1)
	v, _ = dir.Add(v, 5, "zero", 60)
	if l := Walk(v); !slices.Equal(l, []string{"/d", "/d/e", "/d/e/again", "/d/e/top", "/d/e/zero", "/d/g", "/f"}) {
		t.Error(l)
	}
	v, _ = Make(60, 20)
	path := ""
	for range 8 {
		path += "/x"
		v, _, _ = Mkdir(v, path, 0)
	}
	v, _ = dir.Add(v, 9, "deep", 2)
	if l := Walk(v); len(l) != 8 || l[7] != path {
		t.Error(l)
	}
	if Walk(nil) != nil {
		t.Error("no volume")
	}
}

// P23.2
func TestFoundAgain(t *testing.T) {
	v, _ := Make(200, 40)
	is := map[string]string{}
	x := uint32(3)
	next := func(n int) int {
		x = x*1664525 + 1013904223
		return int(x>>8) % n
	}
	for range 40 {
		v2, _, e := Mkdir(v, "/d"+strconv.Itoa(next(3)), 0)
		if e == api.OK {
			v = v2
		}
	}
	for range 400 {
		path := "/d" + strconv.Itoa(next(3)) + "/n" + strconv.Itoa(next(8))
		to := "/d" + strconv.Itoa(next(3)) + "/n" + strconv.Itoa(next(8))
		_, there := is[path]
		_, taken := is[to]
		var e api.Errno
		out := v
		switch next(4) {
		case 0:
			var n int
			if out, n, e = Create(v, path, next(16)); e == api.OK {
				is[path] = strings.Repeat(path, 1+next(40))
				out, e = Write(out, n, 0, is[path])
			}
			if (e == api.OK) == there {
				t.Fatal(path, e)
			}
		case 1:
			if out, e = Remove(v, path); (e == api.OK) != there {
				t.Fatal(path, e)
			}
			delete(is, path)
		case 2:
			if out, e = Rename(v, path, to); (e == api.OK) != (there && !taken) {
				t.Fatal(path, to, e)
			}
			if e == api.OK {
				is[to] = is[path]
				delete(is, path)
			}
		case 3:
			if out, e = Link(v, path, to); (e == api.OK) != (there && !taken) {
				t.Fatal(path, to, e)
			}
			if e == api.OK {
				is[to] = is[path]
			}
		}
		if e == api.OK {
			v = out
		}
		for path, s := range is {
			n, _ := Find(v, path)
			if got, e := Read(v, n, 0, 9999); e != api.OK || got != s {
				t.Fatal(path, e)
			}
		}
		if len(Walk(v)) != len(is)+3 {
			t.Fatal(Walk(v), is)
		}
	}
}

// P23.3
func TestQuota(t *testing.T) {
	v, _ := Make(100, 16)
	begin := geom.Room(v)
	v, n, _ := Create(v, "/a", 3)
	v, e := quota.Set(v, 3, 2)
	if e != api.OK {
		t.Fatal(e)
	}
	v, e = Write(v, n, 0, strings.Repeat("x", 256))
	if e != api.OK {
		t.Fatal(e)
	}
	if out, e := Write(v, n, 256, "x"); out != nil || e != api.ErrQuota {
		t.Error(e)
	}
	if out, e := SetAttr(v, n, "a", "b"); out != nil || e != api.ErrQuota {
		t.Error(e)
	}
	if _, e := Write(v, n, 8959, "xx"); e != api.ErrLimit {
		t.Error("the quota comes last", e)
	}
	if _, e := Write(v, n, 0, "yy"); e != api.OK {
		t.Error(e)
	}
	// Who has more than may be, by what was ahead, may go on with as many.
	over, _ := extent.Write(v, n, 256, "x")
	if quota.Check(over) != api.ErrQuota {
		t.Error("not more")
	}
	if _, e := Write(over, n, 0, "z"); e != api.OK {
		t.Error(e)
	}
	if _, e := Write(over, n, 400, "z"); e != api.ErrQuota {
		t.Error(e)
	}
	over, e = Cut(over, n, 10)
	if e != api.OK || quota.Check(over) != api.OK {
		t.Error(e)
	}
	v, e = Remove(v, "/a")
	if e != api.OK || geom.Room(v) != begin {
		t.Error(e, geom.Room(v), begin)
	}
	// A directory counts for its owner, too.
	v, _, _ = Mkdir(v, "/d", 4)
	v, _ = quota.Set(v, 4, 1)
	for i := range 4 {
		v, _, _ = Create(v, "/d/"+strconv.Itoa(i), 0)
	}
	if out, _, e := Create(v, "/d/x", 0); out != nil || e != api.ErrQuota {
		t.Error(e)
	}
}
