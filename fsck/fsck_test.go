package fsck

import (
	"slices"
	"strings"
	"testing"

	"hibernacle/api"
	"hibernacle/dir"
	"hibernacle/extent"
	"hibernacle/fs"
	"hibernacle/geom"
	"hibernacle/inode"
	"hibernacle/quota"
)

// volume has /d (2), /d/f (3) with 8 blocks and numbers, /g (4) with attributes, /h as another name of 4; Data begin with 11.
func volume(t *testing.T) []string {
	t.Helper()
	v, e := fs.Make(60, 16)
	step := func(out []string, f api.Errno) {
		if f != api.OK {
			t.Fatal(f)
		}
		v = out
	}
	step(v, e)
	out, _, e := fs.Mkdir(v, "/d", 1)
	step(out, e)
	out, _, e = fs.Create(v, "/d/f", 2)
	step(out, e)
	step(fs.Write(v, 3, 0, strings.Repeat("x", 1000)))
	out, _, e = fs.Create(v, "/g", 3)
	step(out, e)
	step(fs.SetAttr(v, 4, "a", "b"))
	step(fs.Link(v, "/g", "/h"))
	if l := Look(v); l != nil {
		t.Fatal(l)
	}
	return v
}

// with is the volume with an inode turned.
func with(t *testing.T, v []string, n int, turn func(x *api.Inode)) []string {
	t.Helper()
	x, _ := inode.Get(v, n)
	turn(&x)
	out, e := inode.Put(v, n, x)
	if e != api.OK {
		t.Fatal(e)
	}
	return out
}

func taken(v []string) int {
	for i := range v {
		if !geom.Used(v, i) {
			return i
		}
	}
	return 0
}

// P24.1: each kind of fault.
func TestLook(t *testing.T) {
	v := volume(t)
	free := taken(v)
	given, _ := geom.Give(v, 13)
	more, _, _ := geom.Take(v)
	bent, _ := extent.Write(v, 2, 0, "y")
	none, _ := dir.Add(v, 2, "none", 9)
	far, _ := dir.Add(v, 2, "far", 60)
	toTop, _ := dir.Add(v, 2, "up", 1)
	lost, _ := dir.Drop(v, 2, "f")
	twice, _ := dir.Add(v, 1, "e", 2)
	limited := slices.Clone(v)
	limited[1] = strings.Repeat("\x00", 4) + "\x08\x00" + limited[1][6:]
	for name, c := range map[string]struct {
		v    []string
		want []Fault
	}{
		"no volume":        {v[1:], []Fault{{1, int(api.ErrForm)}}},
		"a bad number":     {with(t, v, 4, func(x *api.Inode) { x.Direct[3], x.Direct[4] = 5, 60 }), []Fault{{2, 4}}},
		"named twice":      {with(t, v, 3, func(x *api.Inode) { x.Direct[1] = x.Direct[0] }), []Fault{{3, 13}, {5, 14}}},
		"not taken":        {given, []Fault{{4, 13}}},
		"not named":        {more, []Fault{{5, free}}},
		"no top":           {with(t, v, 1, func(x *api.Inode) { x.Kind = 1 }), []Fault{{6, 1}, {9, 2}, {9, 3}, {9, 4}, {10, 2}, {10, 4}}},
		"no directory":     {bent, []Fault{{7, 2}, {9, 3}, {10, 3}}},
		"entry of none":    {none, []Fault{{8, 2}}},
		"entry far":        {far, []Fault{{8, 2}}},
		"entry of top":     {toTop, []Fault{{8, 2}, {10, 1}}},
		"not reached":      {lost, []Fault{{9, 3}, {10, 3}}},
		"links":            {with(t, v, 4, func(x *api.Inode) { x.Links = 1 }), []Fault{{10, 4}}},
		"two names":        {with(t, twice, 2, func(x *api.Inode) { x.Links = 2 }), []Fault{{10, 2}}},
		"attributes":       {with(t, v, 4, func(x *api.Inode) { x.Extra = free }), []Fault{{4, free}, {5, 22}, {11, 4}}},
		"limit":            {limited, []Fault{{12, 2}}},
		"kind":             {with(t, v, 4, func(x *api.Inode) { x.Kind = 3 }), []Fault{{13, 4}}},
		"free with faults": {with(t, v, 9, func(x *api.Inode) { x.Direct[0], x.Links, x.Extra = 3, 7, 12 }), nil},
	} {
		if l := Look(c.v); !slices.Equal(l, c.want) {
			t.Error(name, l, c.want)
		}
	}
	if l := Look(nil); !slices.Equal(l, []Fault{{1, int(api.ErrForm)}}) {
		t.Error(l)
	}
	fresh, _ := geom.Format(24, 8)
	if l := Look(fresh); !slices.Equal(l, []Fault{{6, 1}}) {
		t.Error(l)
	}
}

// P24.1, P24.2
func TestMend(t *testing.T) {
	v := volume(t)
	if out, e := Mend(v); e != api.OK || !slices.Equal(out, v) {
		t.Error(e)
	}
	bent, _ := geom.Give(v, 13)
	bent, _ = geom.Give(bent, 15)
	bent, _, _ = geom.Take(bent)
	bent, _, _ = geom.Take(bent)
	bent, _, _ = geom.Take(bent)
	bent[13], bent[15] = v[13], v[15]
	bent = with(t, bent, 4, func(x *api.Inode) { x.Links = 9 })
	bent = with(t, bent, 1, func(x *api.Inode) { x.Links = 0 })
	bent = with(t, bent, 2, func(x *api.Inode) { x.Links = 5 })
	if l := Look(bent); len(l) < 4 {
		t.Fatal(l)
	}
	out, e := Mend(bent)
	if e != api.OK || Look(out) != nil {
		t.Error(e, Look(out))
	}
	for i := range v {
		if out[i] != v[i] && !strings.Contains(strings.Repeat("\x00", 128), out[i]) {
			t.Error(i)
		}
	}
}

// P24.1, P24.3
func TestLost(t *testing.T) {
	v := volume(t)
	none, _ := dir.Add(v, 2, "none", 9)
	twice, _ := dir.Add(v, 1, "e", 2)
	limited := slices.Clone(v)
	limited[1] = strings.Repeat("\x00", 4) + "\x08\x00" + limited[1][6:]
	for i, bad := range [][]string{
		none, twice, with(t, twice, 2, func(x *api.Inode) { x.Links = 2 }), limited, with(t, v, 4, func(x *api.Inode) { x.Kind = 3 }),
		with(t, v, 3, func(x *api.Inode) { x.Direct[1] = x.Direct[0] }), with(t, v, 4, func(x *api.Inode) { x.Direct[3] = 5 }),
	} {
		was := Look(bad)
		if out, e := Mend(bad); e != api.ErrLost || out != nil || !slices.Equal(Look(bad), was) {
			t.Error(i, e)
		}
	}
	if out, e := Mend(nil); e != api.ErrForm || out != nil {
		t.Error(e)
	}
}

// P24.2, and what layer 23 does keeps a volume sound.
func TestSound(t *testing.T) {
	v, _ := fs.Make(120, 24)
	v, _ = quota.Set(v, 1, 30)
	x := uint32(5)
	next := func(n int) int {
		x = x*1664525 + 1013904223
		return int(x>>8) % n
	}
	names := []string{"/a", "/b", "/c", "/c/a", "/c/b", "/a/c", "/a/c/d"}
	for i := range 600 {
		p, q := names[next(7)], names[next(7)]
		var out []string
		var e api.Errno
		n, _ := fs.Find(v, p)
		switch next(8) {
		case 0:
			out, _, e = fs.Mkdir(v, p, next(3))
		case 1:
			out, _, e = fs.Create(v, p, next(3))
		case 2:
			out, e = fs.Remove(v, p)
		case 3:
			out, e = fs.Rename(v, p, q)
		case 4:
			out, e = fs.Link(v, p, q)
		case 5:
			out, e = fs.Write(v, n, next(8000), strings.Repeat("z", next(900)))
		case 6:
			out, e = fs.Cut(v, n, next(3000))
		case 7:
			out, e = fs.SetAttr(v, n, "x", "y")
		}
		if e == api.OK {
			v = out
		}
		if l := Look(v); l != nil {
			t.Fatal(i, l)
		}
	}
}

// P24.1: as many blocks as a limit lets it have.
func TestLimit(t *testing.T) {
	v := volume(t)
	used := quota.Used(v, 2)
	v, e := quota.Set(v, 2, used)
	if e != api.OK || Look(v) != nil {
		t.Error(e, Look(v))
	}
}
