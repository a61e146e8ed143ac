package spread

import (
	"slices"
	"strings"
	"testing"

	"hibernacle/api"
	"hibernacle/hash"
	"hibernacle/num"
	"hibernacle/parity"
	"hibernacle/shelf"
)

func store() api.Store { return api.Store{Left: -1} }

func wrote(t *testing.T, name, data string) api.Store {
	t.Helper()
	st, e := Write(store(), name, data)
	if e != api.OK {
		t.Fatal(e)
	}
	return st
}

// fated is the store with each shelf's next fate told.
func fated(st api.Store, fates ...int) api.Store {
	for i, f := range fates {
		st.Shelves[i].Fates = []int{f, f}
	}
	return st
}

// P37.1
func TestWrite(t *testing.T) {
	data := "some bytes"
	st := wrote(t, "n", data)
	sum := hash.Sum(data)
	for i, p := range parity.Cut(data) {
		own := hash.Sum(p.Data)
		want := num.Row("hibs", "n", "10", num.Dec(int64(i+1)), string(sum[:]), string(own[:]), p.Data)
		if _, got, e := shelf.Get(st.Shelves[i], "n"); e != api.OK || got != want {
			t.Errorf("%q", got)
		}
	}
	st, e := Post(store(), "n", data)
	for i := range st.Shelves {
		if _, got, _ := shelf.Get(st.Shelves[i], "n"); e != api.OK || got != data {
			t.Errorf("%q", got)
		}
	}
	st, e = Write(fated(store(), 0, 1, 4, 3, 4), "n", data)
	if e != api.ErrGone || len(st.Shelves[0].Objs) != 1 || len(st.Shelves[1].Objs) != 0 || len(st.Shelves[4].Fates) != 1 {
		t.Error(e)
	}
	// The power is gone behind two calls: nothing is done on the others.
	st = fated(store(), 0, 0, 0, 0, 0)
	st.Left = 2
	st, e = Post(st, "n", data)
	if e != api.ErrGone || st.Left != 0 || len(st.Shelves[1].Objs) != 1 || len(st.Shelves[2].Objs) != 0 || len(st.Shelves[2].Fates) != 2 {
		t.Error(e, st.Left)
	}
	bad := store()
	bad.Shelves[3].Objs = []api.Obj{{}}
	if st, e = Write(bad, "n", data); e != api.ErrName || len(st.Shelves[4].Objs) != 1 {
		t.Error(e)
	}
}

// P37.1: errors without any call of a shelf.
func TestOwnErrors(t *testing.T) {
	st := fated(store(), 0, 0, 0, 0, 0)
	st.Left = 0
	long := strings.Repeat("x", 65537)
	for _, name := range []string{"", strings.Repeat("n", 101)} {
		a, e := Write(st, name, long)
		b, f := Post(st, name, long)
		c, _, g := Read(st, name)
		d, _, h := Vote(st, name)
		k, j := Drop(st, name)
		for i, x := range []api.Store{a, b, c, d, k} {
			if len(x.Shelves[0].Fates) != 2 {
				t.Error(i)
			}
		}
		if e != api.ErrName || f != api.ErrName || g != api.ErrName || h != api.ErrName || j != api.ErrName {
			t.Error(e, f, g, h, j)
		}
	}
	if _, e := Write(st, "n", long); e != api.ErrLimit {
		t.Error(e)
	}
	if _, e := Post(st, "n", long); e != api.ErrLimit {
		t.Error(e)
	}
	if _, e := Write(store(), strings.Repeat("n", 100), long[1:]); e != api.OK {
		t.Error(e)
	}
}

// P37.2, P37.5: whatever two shelves tell instead.
func TestRead(t *testing.T) {
	for _, data := range []string{"", "x", "some bytes", strings.Repeat("abc", 5000)} {
		st := wrote(t, "n", data)
		old, _ := Write(wrote(t, "n", "elder bytes"), "n", data)
		for i := range 5 {
			for j := range 5 {
				for f := range 5 {
					for g := range 5 {
						x := store()
						x.Shelves = old.Shelves
						x.Shelves[i].Fates = []int{f}
						x.Shelves[j].Fates = []int{g}
						if _, got, e := Read(x, "n"); e != api.OK || got != data {
							t.Fatal(i, j, f, g, e)
						}
					}
				}
			}
		}
		_ = st
	}
}

// P37.2: two whole sets of parts, one of which is that of more shelves.
func TestReadOthers(t *testing.T) {
	st, other := wrote(t, "n", "right"), wrote(t, "n", "wrong")
	st.Shelves[0], st.Shelves[2] = other.Shelves[0], other.Shelves[2]
	if _, got, e := Read(st, "n"); e != api.OK || got != "right" {
		t.Error(got, e)
	}
	// Parts that fit by themselves, but whose whole is bent, tell nothing; others do.
	liar := wrote(t, "n", "right")
	sum := hash.Sum("right")
	for _, i := range []int{0, 1} {
		own := hash.Sum("zz")
		liar.Shelves[i].Objs = []api.Obj{{Name: "n", Data: num.Row("hibs", "n", "5", num.Dec(int64(i+1)), string(sum[:]), string(own[:]), "zz")}}
	}
	if _, got, e := Read(liar, "n"); e != api.OK || got != "right" {
		t.Error(got, e)
	}
	liar.Shelves[4] = liar.Shelves[3]
	if _, got, e := Read(liar, "n"); e != api.ErrLost || got != "" {
		t.Error(got, e)
	}
}

// P37.2: what doesn't fit.
func TestFits(t *testing.T) {
	sum, own := hash.Sum("abc"), hash.Sum("a")
	good := []string{"hibs", "n", "3", "1", string(sum[:]), string(own[:]), "a"}
	if _, ok := fits("n", 0, num.Row(good...)); !ok {
		t.Error("it fits")
	}
	for i, s := range []string{"hibt", "m", "03", "2", string(sum[1:]), string(sum[:]), "b"} {
		l := slices.Clone(good)
		l[i] = s
		if _, ok := fits("n", 0, num.Row(l...)); ok {
			t.Error(i)
		}
	}
	for _, s := range []string{"-1", "65537", "4", "x"} {
		l := slices.Clone(good)
		l[2] = s
		if _, ok := fits("n", 0, num.Row(l...)); ok {
			t.Error(s)
		}
	}
	if _, ok := fits("n", 0, num.Row(good...)+"\x00"); ok {
		t.Error("eight texts")
	}
	if _, ok := fits("n", 0, num.Row(good...)+"\x05"); ok {
		t.Error("no row")
	}
}

// P37.2, P37.3: errors.
func TestNone(t *testing.T) {
	for i, c := range []struct {
		st   api.Store
		want api.Errno
	}{
		{store(), api.ErrNone}, {fated(store(), 4, 4), api.ErrNone}, {fated(store(), 4, 4, 4), api.ErrLost}, {fated(wrote(t, "n", "x"), 1, 1, 1), api.ErrNone}, {fated(wrote(t, "n", "x"), 1, 1, 4), api.ErrLost}, {fated(wrote(t, "n", "x"), 2, 2, 2), api.ErrLost},
	} {
		if _, got, e := Read(c.st, "n"); got != "" || e != c.want {
			t.Error(i, e)
		}
	}
	posted, _ := Post(store(), "n", "x")
	for i, c := range []struct {
		st   api.Store
		want api.Errno
	}{{store(), api.ErrNone}, {fated(posted, 4, 4, 4), api.ErrLost}, {fated(posted, 2, 1, 4), api.ErrLost}, {fated(posted, 1, 1, 1), api.ErrNone}} {
		if _, got, e := Vote(c.st, "n"); got != "" || e != c.want {
			t.Error(i, e)
		}
	}
	for left := range 5 {
		st := wrote(t, "n", "x")
		st.Left = left
		after, got, e := Read(st, "n")
		if left >= 3 && (e != api.OK || got != "x") || left < 3 && e != api.ErrGone || after.Left != 0 {
			t.Error(left, got, e)
		}
		st, _ = Post(store(), "n", "x")
		st.Left = left
		if _, got, e := Vote(st, "n"); left >= 3 && (e != api.OK || got != "x") || left < 3 && e != api.ErrGone {
			t.Error(left, got, e)
		}
	}
}

// P37.3, P37.5
func TestVote(t *testing.T) {
	st, _ := Post(store(), "n", "elder")
	st, _ = Post(st, "n", "right")
	for f := range 5 {
		for g := range 5 {
			if _, got, e := Vote(fated(st, f, 0, g, 0, 0), "n"); e != api.OK || got != "right" {
				t.Error(f, g, e)
			}
		}
	}
	if _, got, e := Vote(fated(st, 3, 3, 3), "n"); e != api.OK || got != "elder" {
		t.Error("three tell it", got, e)
	}
}

// P37.4
func TestDropNames(t *testing.T) {
	st := wrote(t, "b", "x")
	st, _ = Post(st, "a", "y")
	st.Shelves[2].Objs = nil
	if _, l, e := Names(st, ""); e != api.OK || !slices.Equal(l, []string{"a", "b"}) {
		t.Error(l, e)
	}
	if _, l, e := Names(fated(st, 4, 4), "b"); e != api.OK || !slices.Equal(l, []string{"b"}) {
		t.Error(l, e)
	}
	if _, l, e := Names(fated(st, 4, 4, 4), "b"); e != api.ErrLost || l != nil {
		t.Error(l, e)
	}
	dark := fated(st, 0, 0, 0, 0, 0)
	dark.Left = 4
	if after, l, e := Names(dark, "b"); e != api.ErrGone || l != nil || after.Left != 0 {
		t.Error(l, e)
	}
	st = fated(st, 0, 0, 0, 0, 0)
	after, e := Drop(st, "b")
	if _, l, _ := Names(after, ""); e != api.OK || !slices.Equal(l, []string{"a"}) {
		t.Error(l, e)
	}
	if _, e := Drop(fated(st, 0, 1, 3, 4, 0), "b"); e != api.ErrGone {
		t.Error(e)
	}
	if _, e := Drop(fated(store(), 0, 0, 0, 0, 0), "b"); e != api.OK {
		t.Error(e)
	}
}
