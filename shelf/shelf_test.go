package shelf

import (
	"math"
	"slices"
	"strings"
	"testing"

	"hibernacle/api"
)

func same(a, b api.Shelf) bool {
	return slices.Equal(a.Objs, b.Objs) && slices.Equal(a.Fates, b.Fates)
}

var fates = []int{api.Honest, api.Loses, api.Flips, api.Old, api.Quiet, 5, -1, math.MaxInt}

// shelf has a (which had something ahead), b, and bb.
func shelf(fates ...int) api.Shelf {
	return api.Shelf{Objs: []api.Obj{{Name: "a", Data: "now", Was: "then", Had: true}, {Name: "b", Data: "only"}, {Name: "bb", Data: "", Was: "", Had: true}}, Fates: fates}
}

// P36.1
func TestCheck(t *testing.T) {
	long := strings.Repeat("x", 65537)
	for i, c := range []struct {
		l    []api.Obj
		want api.Errno
	}{
		{nil, api.OK}, {shelf().Objs, api.OK}, {[]api.Obj{{Name: strings.Repeat("x", 100), Data: long[1:], Was: long[1:], Had: true}}, api.OK}, {[]api.Obj{{Name: ""}}, api.ErrName}, {[]api.Obj{{Name: strings.Repeat("x", 101), Data: long}}, api.ErrName},
		{[]api.Obj{{Name: "a"}, {Name: "a", Data: long}}, api.ErrTwice}, {[]api.Obj{{Name: "b"}, {Name: "a", Data: long}}, api.ErrRange}, {[]api.Obj{{Name: "a", Data: long}}, api.ErrLimit}, {[]api.Obj{{Name: "a", Was: long}}, api.ErrLimit}, {[]api.Obj{{Name: "a", Was: "x"}}, api.ErrForm}, {[]api.Obj{{Name: "a", Was: "x"}, {}}, api.ErrForm},
	} {
		s := api.Shelf{Objs: c.l, Fates: []int{4}}
		if e := Check(s); e != c.want {
			t.Error(i, e)
		}
		if c.want == api.OK {
			continue
		}
		a, e := Put(s, "", "")
		b, f := Drop(s, "")
		g, data, h := Get(s, "")
		n, l, j := Names(s, "")
		if e != c.want || f != c.want || h != c.want || j != c.want || data != "" || l != nil || !same(a, s) || !same(b, s) || !same(g, s) || !same(n, s) {
			t.Error(i, e, f, h, j)
		}
	}
}

// P36.1: an error of a call's own takes no fate.
func TestOwnErrors(t *testing.T) {
	s := shelf(4)
	for _, name := range []string{"", strings.Repeat("x", 101)} {
		a, e := Put(s, name, strings.Repeat("x", 65537))
		b, f := Drop(s, name)
		g, _, h := Get(s, name)
		if e != api.ErrName || f != api.ErrName || h != api.ErrName || !same(a, s) || !same(b, s) || !same(g, s) {
			t.Error(e, f, h)
		}
	}
	if a, e := Put(s, "c", strings.Repeat("x", 65537)); e != api.ErrLimit || !same(a, s) {
		t.Error(e)
	}
}

// P36.1
func TestPut(t *testing.T) {
	for _, fate := range fates {
		for _, name := range []string{"a", "c"} {
			want := shelf(7)
			e := api.OK
			data := "new"
			switch fate {
			case api.Quiet:
				e = api.ErrGone
			case api.Loses, api.Old:
			case api.Flips:
				data = "nev"
				fallthrough
			default:
				if name == "a" {
					want.Objs[0] = api.Obj{Name: "a", Data: data, Was: "now", Had: true}
				} else {
					want.Objs = append(want.Objs, api.Obj{Name: "c", Data: data})
				}
			}
			begin := shelf(fate, 7)
			if got, f := Put(begin, name, "new"); f != e || !same(got, want) || !same(begin, shelf(fate, 7)) {
				t.Error(fate, name, f, got)
			}
		}
	}
	if got, _ := Put(shelf(api.Flips), "aa", ""); got.Objs[1] != (api.Obj{Name: "aa"}) {
		t.Error("nothing is flipped")
	}
}

// P36.1
func TestGet(t *testing.T) {
	for _, c := range []struct {
		fate int
		name string
		want string
		e    api.Errno
	}{
		{0, "a", "now", 0}, {0, "c", "", api.ErrNone}, {1, "a", "", api.ErrNone}, {1, "c", "", api.ErrNone}, {2, "a", "nov", 0}, {2, "bb", "", 0}, {2, "c", "", api.ErrNone}, {3, "a", "then", 0}, {3, "b", "", api.ErrNone}, {3, "bb", "", 0}, {3, "c", "", api.ErrNone}, {4, "a", "", api.ErrGone}, {4, "c", "", api.ErrGone}, {9, "a", "now", 0}, {-1, "b", "only", 0},
	} {
		if s, got, e := Get(shelf(c.fate, 3), c.name); got != c.want || e != c.e || !same(s, shelf(3)) {
			t.Error(c, got, e)
		}
	}
}

// P36.1
func TestDrop(t *testing.T) {
	for _, fate := range fates {
		for _, name := range []string{"b", "c"} {
			want, e := shelf(), api.OK
			switch fate {
			case api.Quiet:
				e = api.ErrGone
			case api.Loses, api.Old:
			default:
				if name == "b" {
					want.Objs = slices.Delete(want.Objs, 1, 2)
				} else {
					e = api.ErrNone
				}
			}
			if got, f := Drop(shelf(fate), name); f != e || !same(got, want) {
				t.Error(fate, name, f, got)
			}
		}
	}
}

// P36.1
func TestNames(t *testing.T) {
	for _, c := range []struct {
		fate  int
		front string
		want  []string
		e     api.Errno
	}{
		{0, "", []string{"a", "b", "bb"}, 0}, {0, "b", []string{"b", "bb"}, 0}, {0, "bbb", nil, 0}, {1, "", nil, 0}, {2, "bb", []string{"bb"}, 0}, {3, "", []string{"a", "bb"}, 0}, {4, "", nil, api.ErrGone}, {8, "a", []string{"a"}, 0}, {0, strings.Repeat("x", 200), nil, 0},
	} {
		if s, got, e := Names(shelf(c.fate), c.front); !slices.Equal(got, c.want) || e != c.e || !same(s, shelf()) {
			t.Error(c, got, e)
		}
	}
}

// P36.2
func TestMayBe(t *testing.T) {
	var s api.Shelf
	is := map[string]string{}
	x := uint32(1)
	for i := range 2000 {
		x = x*1664525 + 1013904223
		name := string(rune('a' + x>>20%12))
		honest := i < 1000
		s.Fates = nil
		if !honest {
			s.Fates = []int{int(x>>10) % 6}
		}
		if x>>5%3 == 0 {
			var e api.Errno
			s, e = Drop(s, name)
			if _, there := is[name]; honest && (e == api.OK) != there {
				t.Fatal(e)
			}
			delete(is, name)
		} else {
			is[name] = strings.Repeat(name, i%9)
			s, _ = Put(s, name, is[name])
		}
		if e := Check(s); e != api.OK {
			t.Fatal(i, e)
		}
		for n := range is {
			if _, got, e := Get(api.Shelf{Objs: s.Objs}, n); honest && (e != api.OK || got != is[n]) {
				t.Fatal(i, n, e)
			}
		}
	}
	first, _ := Put(api.Shelf{}, "x", "a")
	first, _ = Put(first, "x", "b")
	first.Fates = []int{api.Old}
	if _, got, _ := Get(first, "x"); got != "a" {
		t.Error(got)
	}
}

// P36.1: as many bytes as may be.
func TestMost(t *testing.T) {
	s, e := Put(api.Shelf{}, strings.Repeat("n", 100), strings.Repeat("x", 65536))
	if e != api.OK || Check(s) != api.OK {
		t.Error(e)
	}
}
