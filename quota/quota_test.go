package quota

import (
	"math"
	"slices"
	"strings"
	"testing"

	"hibernacle/api"
	"hibernacle/extent"
	"hibernacle/geom"
	"hibernacle/inode"
)

// volume has a file of owner 3 with two blocks, and one of owner 200.
func volume(t *testing.T) []string {
	t.Helper()
	v, _ := geom.Format(60, 8)
	v, n, _ := inode.New(v, api.IsFile, 3)
	v, e := extent.Write(v, n, 0, strings.Repeat("x", 129))
	if e != api.OK {
		t.Fatal(e)
	}
	v, n, _ = inode.New(v, api.IsDir, 5)
	v, _ = extent.Write(v, n, 6*128, "x")
	x, _ := inode.Get(v, n)
	x.Owner = 200
	v, _ = inode.Put(v, n, x)
	return v
}

// P22.1
func TestLimitSet(t *testing.T) {
	v := volume(t)
	for i := range 16 {
		if n, e := Limit(v, i); n != 0 || e != api.OK {
			t.Error(i, n, e)
		}
	}
	out, e := Set(v, 3, 2)
	if e != api.OK || out[1][6:8] != "\x02\x00" || v[1][6] != 0 {
		t.Error(e)
	}
	if out, e := Set(v, 3, 1); e != api.ErrQuota || out != nil {
		t.Error(e)
	}
	out, e = Set(out, 15, 65535)
	if n, _ := Limit(out, 15); e != api.OK || n != 65535 || out[1][30:32] != "\xff\xff" {
		t.Error(n)
	}
	if out, e = Set(out, 3, 0); e != api.OK || out[1][6:8] != "\x00\x00" {
		t.Error("a limit goes", e)
	}
	for _, c := range []struct {
		v            []string
		owner, limit int
		want         api.Errno
	}{{nil, 99, 99, api.ErrForm}, {v, -1, -1, api.ErrArg}, {v, 16, 0, api.ErrArg}, {v, 0, -1, api.ErrRange}, {v, 0, 65536, api.ErrRange}, {v, 3, math.MaxInt, api.ErrRange}} {
		if out, e := Set(c.v, c.owner, c.limit); e != c.want || out != nil {
			t.Error(c.owner, e)
		}
	}
	for owner, want := range map[int]api.Errno{-1: api.ErrArg, 16: api.ErrArg, math.MinInt: api.ErrArg} {
		if n, e := Limit(v, owner); n != 0 || e != want {
			t.Error(e)
		}
	}
	if _, e := Limit(nil, 99); e != api.ErrForm {
		t.Error(e)
	}
}

// P22.2
func TestUsedCheck(t *testing.T) {
	v := volume(t)
	for owner, want := range map[int]int{3: 2, 200: 2, 5: 0, 0: 0, -1: 0, math.MaxInt: 0} {
		if n := Used(v, owner); n != want {
			t.Error(owner, n)
		}
	}
	if Used(nil, 0) != 0 || Check(nil) != api.ErrForm || Check(v) != api.OK {
		t.Error("edges")
	}
	v, _ = Set(v, 3, 2)
	if Check(v) != api.OK {
		t.Error("as many as may be")
	}
	v, _ = extent.Write(v, 1, 500, "y")
	if Used(v, 3) != 3 || Check(v) != api.ErrQuota {
		t.Error("more than may be")
	}
	// An inode that is free counts for nobody.
	x, _ := inode.Get(v, 1)
	x.Kind = 0
	if v, _ = inode.Put(v, 1, x); Used(v, 3) != 0 || Check(v) != api.OK {
		t.Error("free")
	}
}

// P22.3
func TestSetAlone(t *testing.T) {
	v := volume(t)
	for owner := range 16 {
		for limit := range 5 {
			out, e := Set(v, owner, limit)
			if (e == api.OK) != (owner != 3 || limit != 1) {
				t.Error(owner, limit, e)
			}
			if e != api.OK {
				continue
			}
			if Check(out) != api.OK || !slices.Equal(out[2:], v[2:]) || out[0] != v[0] {
				t.Error(owner, limit)
			}
			for other := range 16 {
				was, _ := Limit(v, other)
				is, _ := Limit(out, other)
				if other == owner && is != limit || other != owner && is != was {
					t.Error(other)
				}
			}
			v = out
		}
		v, _ = Set(v, owner, 0)
	}
}
