package inode

import (
	"math"
	"slices"
	"strings"
	"testing"

	"hibernacle/api"
	"hibernacle/geom"
)

func volume(t *testing.T, inodes int) []string {
	t.Helper()
	v, e := geom.Format(24, inodes)
	if e != api.OK {
		t.Fatal(e)
	}
	return v
}

var full = api.Inode{Kind: 255, Links: 65535, Owner: 255, Size: 1<<32 - 1, Direct: [6]int{1, 2, 3, 4, 5, 65535}, Indirect: 7, Extra: 258}

// P18.1, P18.2: the bytes are laid out as the words say; the last 40 stay.
func TestBytes(t *testing.T) {
	v := volume(t, 7)
	v[4] = strings.Repeat("z", 128)
	out, e := Put(v, 4, full)
	want := "\xff\xff\xff\xff\xff\xff\xff\xff\x01\x00\x02\x00\x03\x00\x04\x00\x05\x00\xff\xff\x07\x00\x02\x01"
	if e != api.OK || out[4] != v[4][:64]+want+v[4][:40] || v[4] != strings.Repeat("z", 128) {
		t.Errorf("%q", out[4])
	}
	for i := range v {
		if i != 4 && out[i] != v[i] {
			t.Error(i)
		}
	}
	if x, e := Get(out, 4); e != api.OK || x != full {
		t.Error(x, e)
	}
}

// P18.1
func TestGetWrong(t *testing.T) {
	v := volume(t, 7)
	for _, n := range []int{0, -1, 8, math.MinInt, math.MaxInt} {
		if x, e := Get(v, n); e != api.ErrRange || x != (api.Inode{}) {
			t.Error(n, e)
		}
		if out, e := Put(v, n, api.Inode{Kind: -1}); e != api.ErrRange || out != nil {
			t.Error(n, e)
		}
	}
	if x, e := Get(nil, 1); e != api.ErrForm || x != (api.Inode{}) {
		t.Error(e)
	}
	if out, e := Put(v[1:], 99, full); e != api.ErrForm || out != nil {
		t.Error(e)
	}
}

// P18.2
func TestPutWrong(t *testing.T) {
	v := volume(t, 8)
	for i, x := range []api.Inode{{Kind: 256}, {Kind: -1}, {Owner: 256}, {Links: 65536}, {Links: -1}, {Size: 1 << 32}, {Size: -1}, {Size: math.MinInt}, {Direct: [6]int{5: 65536}}, {Indirect: -1}, {Extra: math.MaxInt}} {
		if out, e := Put(v, 1, x); e != api.ErrArg || out != nil {
			t.Error(i, e)
		}
	}
}

// P18.3
func TestNew(t *testing.T) {
	v := volume(t, 5)
	if All(v) != nil {
		t.Error("all are free")
	}
	v, n, e := New(v, api.IsFile, 3)
	if n != 1 || e != api.OK || v[3][:4] != "\x01\x03\x01\x00" {
		t.Errorf("%d %q", n, v[3])
	}
	for i := 2; i <= 5; i++ {
		v, n, e = New(v, api.IsDir, 15)
		if n != i || e != api.OK {
			t.Error(n, e)
		}
	}
	if out, n, e := New(v, api.IsFile, 0); out != nil || n != 0 || e != api.ErrFull {
		t.Error(n, e)
	}
	v, _ = Put(v, 3, api.Inode{Size: 9, Extra: 5})
	if l := All(v); !slices.Equal(l, []int{1, 2, 4, 5}) {
		t.Error(l)
	}
	v, n, _ = New(v, api.IsFile, 1)
	if x, _ := Get(v, n); n != 3 || x != (api.Inode{Kind: 1, Links: 1, Owner: 1}) {
		t.Error(n, x)
	}
	for _, c := range [][2]int{{0, 0}, {3, 0}, {1, -1}, {1, 16}, {math.MinInt, math.MaxInt}} {
		if out, n, e := New(v, c[0], c[1]); e != api.ErrArg || out != nil || n != 0 {
			t.Error(c, e)
		}
	}
	if _, _, e := New(nil, 9, 9); e != api.ErrForm {
		t.Error(e)
	}
	if All(nil) != nil {
		t.Error("no volume")
	}
}

// P18.4
func TestThereAndBack(t *testing.T) {
	v := volume(t, 8)
	begin := slices.Clone(v)
	var all [9]api.Inode
	for i := range 200 {
		n := i*5%8 + 1
		all[n] = api.Inode{Kind: i % 3, Links: i, Owner: i % 256, Size: i * i, Direct: [6]int{i, i + 1}, Indirect: i * 3, Extra: i}
		v, _ = Put(v, n, all[n])
		for m := 1; m <= 8; m++ {
			if x, e := Get(v, m); e != api.OK || x != all[m] {
				t.Fatal(i, m)
			}
		}
	}
	for n := 1; n <= 8; n++ {
		v, _ = Put(v, n, api.Inode{})
	}
	if !slices.Equal(v, begin) {
		t.Error("put as it was")
	}
}
