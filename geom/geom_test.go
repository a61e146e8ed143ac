package geom

import (
	"math"
	"slices"
	"strings"
	"testing"

	"hibernacle/api"
)

func format(t *testing.T, blocks, inodes int) []string {
	t.Helper()
	v, e := Format(blocks, inodes)
	if e != api.OK {
		t.Fatal(e)
	}
	return v
}

// with is v with another byte.
func with(v []string, block, at int, c byte) []string {
	v = slices.Clone(v)
	b := []byte(v[block])
	b[at] = c
	v[block] = string(b)
	return v
}

// P17.1
func TestPlan(t *testing.T) {
	for _, c := range []struct {
		blocks, inodes int
		data           int
		e              api.Errno
	}{
		{24, 8, 7, 0}, {24, 7, 7, 0}, {16, 4, 5, 0}, {223, 64, 35, 0}, {16, 24, 15, 0}, {16, 25, 0, api.ErrFull}, {35, 64, 0, api.ErrFull}, {36, 64, 35, 0},
		{15, 4, 0, api.ErrRange}, {224, 4, 0, api.ErrRange}, {16, 3, 0, api.ErrRange}, {16, 65, 0, api.ErrRange}, {math.MinInt, math.MaxInt, 0, api.ErrRange},
	} {
		g, e := Plan(c.blocks, c.inodes)
		want := api.Geom{}
		if c.e == 0 {
			want = api.Geom{Blocks: c.blocks, Inodes: c.inodes, Quota: 1, Map: 2, Table: 3, Data: c.data}
		}
		if e != c.e || g != want {
			t.Error(c, g, e)
		}
		v, f := Format(c.blocks, c.inodes)
		if f != c.e || f != 0 && v != nil {
			t.Error(c, f)
		}
		if f == 0 {
			if got, e := Of(v); e != 0 || got != g {
				t.Error(c, e)
			}
		}
	}
}

// P17.1
func TestFormat(t *testing.T) {
	v := format(t, 24, 8)
	zeros := strings.Repeat("\x00", 128)
	if len(v) != 24 || v[0] != "hib1\x18\x00\x08\x00"+zeros[8:] || v[2] != "\x7f"+zeros[1:] || Room(v) != 17 {
		t.Errorf("%q", v[:3])
	}
	for i := range v {
		if i != 0 && i != 2 && v[i] != zeros {
			t.Error(i)
		}
	}
}

// P17.2
func TestOfWrong(t *testing.T) {
	v := format(t, 24, 8)
	for i, bad := range [][]string{
		nil, {""}, v[:23], append(slices.Clone(v), v[5]), append(slices.Clone(v[:23]), "x"), with(v, 0, 0, 'H'), with(v, 0, 4, 25), with(v, 0, 5, 1), with(v, 0, 6, 3),
		with(v, 0, 127, 1), with(v, 0, 8, 1), with(v, 2, 0, 0x3f), with(v, 2, 0, 0x7e), with(v, 2, 3, 1), with(v, 2, 127, 128),
	} {
		if g, e := Of(bad); e != api.ErrForm || g != (api.Geom{}) {
			t.Error(i, e)
		}
		if out, n, e := Take(bad); out != nil || n != 0 || e != api.ErrForm {
			t.Error(i, e)
		}
		if out, e := Give(bad, 8); out != nil || e != api.ErrForm {
			t.Error(i, e)
		}
		if Used(bad, 0) || Room(bad) != 0 {
			t.Error(i)
		}
	}
	for i, good := range [][]string{with(v, 1, 5, 9), with(v, 3, 5, 9), with(v, 23, 5, 9), with(v, 2, 2, 255)} {
		if _, e := Of(good); e != api.OK {
			t.Error(i, e)
		}
	}
}

// P17.3
func TestTakeGive(t *testing.T) {
	v := with(format(t, 24, 8), 7, 3, 'x')
	was := slices.Clone(v)
	a, n, e := Take(v)
	if e != api.OK || n != 7 || a[7] != strings.Repeat("\x00", 128) || !slices.Equal(v, was) {
		t.Error(n, e)
	}
	b, n, _ := Take(a)
	if n != 8 {
		t.Error(n)
	}
	b = with(b, 7, 0, 'q')
	c, e := Give(b, 7)
	if e != api.OK || c[7] != b[7] || Room(c) != 16 {
		t.Error(e)
	}
	if _, n, _ := Take(c); n != 7 {
		t.Error(n)
	}
	for i, want := range map[int]api.Errno{6: api.ErrRange, -1: api.ErrRange, 24: api.ErrRange, math.MaxInt: api.ErrRange, 7: api.ErrNone, 23: api.ErrNone} {
		if out, e := Give(c, i); e != want || out != nil {
			t.Error(i, e)
		}
	}
	for range 16 {
		c, _, e = Take(c)
		if e != api.OK {
			t.Fatal(e)
		}
	}
	if out, n, e := Take(c); e != api.ErrFull || out != nil || n != 0 || Room(c) != 0 {
		t.Error(n, e)
	}
}

// P17.4
func TestUsed(t *testing.T) {
	v := format(t, 24, 8)
	for i, want := range map[int]bool{-1: false, 0: true, 6: true, 7: false, 23: false, 24: false, math.MinInt: false, math.MaxInt: false} {
		if Used(v, i) != want {
			t.Error(i)
		}
	}
	v, _, _ = Take(v)
	if !Used(v, 7) || Used(v, 8) {
		t.Error("taken")
	}
}

// P17.5
func TestAllElse(t *testing.T) {
	v := format(t, 40, 8)
	for i := 7; i < 40; i++ {
		v = with(v, i, i, 'z')
	}
	x, taken := uint32(1), map[int]bool{}
	for range 500 {
		x = x*1664525 + 1013904223
		i := int(x>>16) % 40
		if x>>8%2 == 0 {
			out, n, e := Take(v)
			if e == api.OK && (taken[n] || len(out) != 40) {
				t.Fatal("taken twice", n)
			}
			if e == api.OK {
				taken[n] = true
				for j := range v {
					if j != 2 && j != n && out[j] != v[j] {
						t.Fatal(j)
					}
				}
				v = out
			}
		} else if out, e := Give(v, i); e == api.OK {
			delete(taken, i)
			if !slices.Equal(out[3:], v[3:]) || out[0] != v[0] || out[1] != v[1] {
				t.Fatal(i)
			}
			v = out
		}
		if Room(v) != 33-len(taken) {
			t.Fatal("room")
		}
	}
}
