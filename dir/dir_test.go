package dir

import (
	"slices"
	"strconv"
	"strings"
	"testing"

	"hibernacle/api"
	"hibernacle/extent"
	"hibernacle/geom"
	"hibernacle/inode"
)

// volume has a directory, 1, and a file, 2.
func volume(t *testing.T, blocks int) []string {
	t.Helper()
	v, _ := geom.Format(blocks, 8)
	v, _, _ = inode.New(v, api.IsDir, 0)
	v, _, e := inode.New(v, api.IsFile, 0)
	if e != api.OK {
		t.Fatal(e)
	}
	return v
}

func add(t *testing.T, v []string, name string, ino int) []string {
	t.Helper()
	v, e := Add(v, 1, name, ino)
	if e != api.OK {
		t.Fatal(name, e)
	}
	return v
}

// P20.1
func TestMay(t *testing.T) {
	for _, s := range []string{"a", "Z", "0", "-", "_", "...", ".a", strings.Repeat("x", 24)} {
		if !May(s) {
			t.Error(s)
		}
	}
	for _, s := range []string{"", ".", "..", "a/b", "a b", "é", "a\x00", strings.Repeat("x", 25), "@", "[", "`", "{", ":", "/"} {
		if May(s) {
			t.Error(s)
		}
	}
}

// P20.1: an entry's bytes.
func TestBytes(t *testing.T) {
	v := add(t, volume(t, 30), "ab", 64)
	b, _ := extent.Read(v, 1, 0, 999)
	if b != "\x40\x00\x02\x00ab"+strings.Repeat("\x00", 26) {
		t.Errorf("%q", b)
	}
}

// P20.1
func TestErrors(t *testing.T) {
	v := add(t, volume(t, 30), "a", 2)
	for _, c := range []struct {
		n    int
		want api.Errno
	}{{0, api.ErrRange}, {9, api.ErrRange}, {2, api.ErrKind}, {3, api.ErrKind}} {
		if l, e := List(v, c.n); e != c.want || l != nil {
			t.Error(c, e)
		}
		if n, e := Find(v, c.n, "a"); e != c.want || n != 0 {
			t.Error(c, e)
		}
		if out, e := Add(v, c.n, "a", 1); e != c.want || out != nil {
			t.Error(c, e)
		}
		if out, e := Drop(v, c.n, "a"); e != c.want || out != nil {
			t.Error(c, e)
		}
	}
	if _, e := Find(nil, 9, "/"); e != api.ErrName {
		t.Error(e)
	}
	if _, e := Find(nil, 1, "a"); e != api.ErrForm {
		t.Error(e)
	}
	if n, e := Find(v, 1, "b"); n != 0 || e != api.ErrNone {
		t.Error(e)
	}
	if out, e := Add(v, 1, "", 0); out != nil || e != api.ErrName {
		t.Error(e)
	}
	for _, ino := range []int{0, 65, -1} {
		if out, e := Add(v, 1, "a", ino); out != nil || e != api.ErrRange {
			t.Error(e)
		}
	}
	if out, e := Add(v, 1, "a", 64); out != nil || e != api.ErrTwice {
		t.Error(e)
	}
	if out, e := Drop(v, 1, "b"); out != nil || e != api.ErrNone {
		t.Error(e)
	}
	if out, e := Drop(v, 1, ".."); out != nil || e != api.ErrName {
		t.Error(e)
	}
	e := api.OK
	for i := 0; e == api.OK && i < 500; i++ {
		v, e = Add(v, 1, "n"+strconv.Itoa(i), 1)
	}
	if e != api.ErrFull {
		t.Error(e)
	}
}

// P20.1: bytes that are no directory's.
func TestForm(t *testing.T) {
	v := add(t, add(t, volume(t, 30), "ab", 5), "b", 6)
	good, _ := extent.Read(v, 1, 0, 64)
	for at, c := range map[int]byte{0: 0, 1: 1, 2: 1, 3: 1, 4: '/', 6: 'x', 31: 1, 32: 65, 34: 25, 36: 'a'} {
		b := []byte(good)
		b[at] = c
		out, _ := extent.Write(v, 1, 0, string(b))
		l, e := List(out, 1)
		if at == 36 {
			if e != api.ErrForm {
				t.Error("names don't rise", l)
			}
			continue
		}
		if e != api.ErrForm || l != nil {
			t.Error(at, e)
		}
	}
	twice, _ := extent.Write(v, 1, 0, good[:32]+good[:32])
	if _, e := List(twice, 1); e != api.ErrForm {
		t.Error("twice")
	}
	cut, _ := extent.Cut(v, 1, 63)
	if _, e := List(cut, 1); e != api.ErrForm {
		t.Error("cut")
	}
}

// P20.2, P20.3
func TestNames(t *testing.T) {
	v := volume(t, 60)
	is := map[string]int{}
	x := uint32(1)
	for i := range 800 {
		x = x*1664525 + 1013904223
		name := "n" + strconv.Itoa(int(x>>10)%60)
		if _, there := is[name]; there {
			out, e := Drop(v, 1, name)
			if e != api.OK {
				t.Fatal(e)
			}
			v = out
			delete(is, name)
		} else {
			is[name] = 1 + i%64
			v = add(t, v, name, is[name])
		}
		l, e := List(v, 1)
		if e != api.OK || len(l) != len(is) {
			t.Fatal(e, len(l), len(is))
		}
		for _, x := range l {
			if n, e := Find(v, 1, x.Name); e != api.OK || n != is[x.Name] || n != x.Ino {
				t.Fatal(x, e)
			}
		}
		if !slices.IsSortedFunc(l, func(a, b api.Entry) int { return strings.Compare(a.Name, b.Name) }) {
			t.Fatal("order")
		}
	}
	a := add(t, add(t, add(t, volume(t, 30), "x", 1), "y", 2), "A", 3)
	b := add(t, add(t, add(t, volume(t, 30), "A", 3), "x", 1), "y", 2)
	if !slices.Equal(a, b) {
		t.Error("the order of putting in plays a part")
	}
	empty, e := Drop(add(t, volume(t, 30), "x", 1), 1, "x")
	if e != api.OK || !slices.Equal(empty, volume(t, 30)) && geom.Room(empty) != geom.Room(volume(t, 30)) {
		t.Error("empty")
	}
}

// P20.1: the edges of a name's signs.
func TestSigns(t *testing.T) {
	for _, s := range []string{"a", "z", "A", "Z", "0", "9", "azAZ09-_."} {
		if !May(s) {
			t.Error(s)
		}
	}
}
