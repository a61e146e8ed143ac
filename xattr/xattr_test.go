package xattr

import (
	"slices"
	"strings"
	"testing"

	"hibernacle/api"
	"hibernacle/geom"
	"hibernacle/inode"
	"hibernacle/num"
)

// volume has two files, 1 and 2; its Data begin with 7.
func volume(t *testing.T) []string {
	t.Helper()
	v, _ := geom.Format(24, 8)
	v, _, _ = inode.New(v, api.IsFile, 0)
	v, _, e := inode.New(v, api.IsDir, 0)
	if e != api.OK {
		t.Fatal(e)
	}
	return v
}

func set(t *testing.T, v []string, n int, name, value string) []string {
	t.Helper()
	v, e := Set(v, n, name, value)
	if e != api.OK {
		t.Fatal(name, e)
	}
	return v
}

func extra(v []string, n int) int {
	x, _ := inode.Get(v, n)
	return x.Extra
}

// P21.2
func TestExample(t *testing.T) {
	begin := volume(t)
	v := set(t, begin, 1, "name", "value")
	if extra(v, 1) != 7 || v[7] != "\x0b\x00\x04name\x05value"+strings.Repeat("\x00", 115) {
		t.Errorf("%q", v[7])
	}
	v = set(t, v, 1, "a", "")
	if v[7] != "\x0e\x00\x01a\x00\x04name\x05value"+strings.Repeat("\x00", 112) || geom.Room(v) != geom.Room(begin)-1 {
		t.Errorf("%q", v[7])
	}
}

// P21.1
func TestListErrors(t *testing.T) {
	v := volume(t)
	for _, c := range []struct {
		v    []string
		n    int
		want api.Errno
	}{{nil, 1, api.ErrForm}, {v, 0, api.ErrRange}, {v, 9, api.ErrRange}, {v, 3, api.ErrNone}} {
		if l, e := List(c.v, c.n); e != c.want || l != nil {
			t.Error(c.n, e)
		}
		if s, e := Get(c.v, c.n, ""); e != c.want || s != "" {
			t.Error(c.n, e)
		}
		if out, e := Set(c.v, c.n, "", ""); e != c.want || out != nil {
			t.Error(c.n, e)
		}
		if out, e := Drop(c.v, c.n, ""); e != c.want || out != nil {
			t.Error(c.n, e)
		}
	}
	if l, e := List(v, 1); l != nil || e != api.OK {
		t.Error(e)
	}
	for _, x := range []int{1, 6, 7, 24, 65535} {
		out, _ := inode.Put(v, 1, api.Inode{Kind: 1, Extra: x})
		if l, e := List(out, 1); l != nil || e != api.ErrForm {
			t.Error(x, e)
		}
	}
}

// P21.1: blocks that aren't as said.
func TestForm(t *testing.T) {
	v := set(t, volume(t), 1, "x", "y")
	block := func(b string, size int) string {
		return num.Put(uint64(size), 2) + b + strings.Repeat("\x00", 126-len(b))
	}
	for i, c := range []struct {
		b  string
		ok bool
	}{
		{block(num.Row("a", "1", "b", "2"), 8), true}, {block("", 0), false}, {block(num.Row("a"), 2), false}, {block(num.Row("a", "1"), 127), false}, {block(num.Row("a", "1"), 5), false},
		{block(num.Row("b", "1", "a", "2"), 8), false}, {block(num.Row("a", "1", "a", "2"), 8), false}, {block(num.Row("A", "1"), 4), false}, {block(num.Row("", "1"), 3), false},
		{block(num.Row("a", "1")+"x", 4), false}, {block(num.Row("a", "1")+"x", 5), false}, {block(num.Row(strings.Repeat("a", 25), ""), 27), false},
	} {
		out := slices.Clone(v)
		out[7] = c.b
		if _, e := List(out, 1); (e == api.OK) != c.ok || !c.ok && e != api.ErrForm {
			t.Error(i, e)
		}
	}
}

// P21.2, P21.3
func TestErrors(t *testing.T) {
	v := volume(t)
	for _, name := range []string{"", "A", "a b", "é", "/", strings.Repeat("a", 25)} {
		if out, e := Set(v, 1, name, "v"); e != api.ErrName || out != nil {
			t.Error(name, e)
		}
	}
	if _, e := Set(v, 1, "a", strings.Repeat("x", 123)); e != api.OK {
		t.Error(e)
	}
	if out, e := Set(v, 1, "a", strings.Repeat("x", 124)); e != api.ErrLimit || out != nil {
		t.Error(e)
	}
	if out, e := Drop(v, 1, "a"); e != api.ErrNone || out != nil {
		t.Error(e)
	}
	for range 17 {
		v, _, _ = geom.Take(v)
	}
	if out, e := Set(v, 1, "a", "x"); e != api.ErrFull || out != nil {
		t.Error(e)
	}
	if _, e := Set(v, 1, "a", strings.Repeat("x", 124)); e != api.ErrLimit {
		t.Error("the limit comes first", e)
	}
}

// P21.3, P21.4
func TestThereAndBack(t *testing.T) {
	begin := volume(t)
	v := set(t, begin, 2, "other", "thing")
	with := slices.Clone(v)
	names := []string{"b", "a.b", "-", "_", "9", strings.Repeat("z", 24)}
	for i, name := range names {
		v = set(t, v, 1, name, "1")
		v = set(t, v, 1, name, strings.Repeat("v", i))
	}
	for i, name := range names {
		if s, e := Get(v, 1, name); e != api.OK || s != strings.Repeat("v", i) {
			t.Error(name, s, e)
		}
	}
	if s, e := Get(v, 1, "a"); s != "" || e != api.ErrNone {
		t.Error(e)
	}
	l, _ := List(v, 1)
	if !slices.IsSortedFunc(l, func(a, b api.Attr) int { return strings.Compare(a.Name, b.Name) }) || len(l) != len(names) {
		t.Error(l)
	}
	if s, _ := Get(v, 2, "other"); s != "thing" {
		t.Error(s)
	}
	for i := range v {
		if i != 2 && i != 3 && i != 8 && v[i] != with[i] {
			t.Error(i)
		}
	}
	for _, name := range names {
		out, e := Drop(v, 1, name)
		if e != api.OK {
			t.Fatal(e)
		}
		v = out
	}
	v[8] = with[8]
	if !slices.Equal(v, with) {
		t.Error("not as it was")
	}
}

// P21.1, P21.2: the edges of names, and a row as long as may be.
func TestEdges(t *testing.T) {
	v := set(t, volume(t), 1, "a", strings.Repeat("x", 123))
	if v[7][:2] != "\x7e\x00" {
		t.Errorf("%q", v[7][:2])
	}
	if s, e := Get(v, 1, "a"); e != api.OK || len(s) != 123 {
		t.Error(e)
	}
	for _, name := range []string{"a", "z", "0", "9", "a0z9"} {
		if _, e := Set(volume(t), 1, name, ""); e != api.OK {
			t.Error(name, e)
		}
	}
	for _, name := range []string{"`", "{", "/", ":"} {
		if _, e := Set(volume(t), 1, name, ""); e != api.ErrName {
			t.Error(name, e)
		}
	}
}
