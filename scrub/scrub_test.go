package scrub

import (
	"slices"
	"strings"
	"testing"

	"hibernacle/api"
	"hibernacle/shelf"
	"hibernacle/spread"
	"hibernacle/vault"
)

func store(t *testing.T) api.Store {
	t.Helper()
	st, e := spread.Write(api.Store{Left: -1}, "n", "some bytes")
	if e == api.OK {
		st, e = spread.Post(st, "root/x", "posted")
	}
	if e != api.OK {
		t.Fatal(e)
	}
	return st
}

func sameObjs(a, b api.Store) bool {
	for i := range a.Shelves {
		if !slices.EqualFunc(a.Shelves[i].Objs, b.Shelves[i].Objs, func(x, y api.Obj) bool { return x.Name == y.Name && x.Data == y.Data }) {
			return false
		}
	}
	return true
}

// bent is the store on which a shelf tells other bytes of an object.
func bent(t *testing.T, st api.Store, i int, name string) api.Store {
	t.Helper()
	s, e := shelf.Put(st.Shelves[i], name, "bent")
	if e != api.OK {
		t.Fatal(e)
	}
	st.Shelves[i] = s
	return st
}

// P52.1
func TestLook(t *testing.T) {
	st := store(t)
	for _, name := range []string{"n", "root/x"} {
		if _, l, e := Look(st, name); e != api.OK || l != nil {
			t.Error(name, l, e)
		}
		x := bent(t, st, 4, name)
		x.Shelves[1].Objs = nil
		if after, l, e := Look(x, name); e != api.OK || !slices.Equal(l, []int{1, 4}) || !sameObjs(after, x) {
			t.Error(name, l, e)
		}
		x.Shelves[0].Objs = nil
		if _, l, e := Look(x, name); e != api.ErrLost || l != nil {
			t.Error(name, l, e)
		}
		for left := range 10 {
			x := st
			x.Left = left
			after, l, e := Look(x, name)
			if e != api.ErrGone || l != nil || after.Left != 0 {
				t.Error(name, left, l, e)
			}
		}
		x = st
		x.Left = 10
		if after, l, e := Look(x, name); e != api.OK || l != nil || after.Left != 0 {
			t.Error(name, l, e)
		}
	}
	if _, l, e := Look(api.Store{Left: -1}, "a"); e != api.ErrNone || l != nil {
		t.Error(e)
	}
	if _, l, e := Look(st, ""); e != api.ErrName || l != nil {
		t.Error(e)
	}
	// A shelf that lies as it is asked is told.
	x := st
	x.Shelves[2].Fates = []int{api.Honest, api.Flips}
	if after, l, e := Look(x, "n"); e != api.OK || !slices.Equal(l, []int{2}) || len(after.Shelves[2].Fates) != 0 {
		t.Error(l, e)
	}
}

// P52.1, P52.2, T24
func TestMend(t *testing.T) {
	st := store(t)
	for _, name := range []string{"n", "root/x"} {
		for i := range 5 {
			for j := range 5 {
				x := bent(t, st, i, name)
				if j != i {
					x.Shelves[j], _ = shelf.Drop(x.Shelves[j], name)
				}
				x, e := Mend(x, name)
				if e != api.OK || !sameObjs(x, st) {
					t.Fatal(name, i, j, e)
				}
				for k := range 5 {
					y := x
					y.Shelves[k].Objs, y.Shelves[(k+2)%5].Objs = nil, nil
					if _, data, e := ask(y, name); e != api.OK || data == "" {
						t.Fatal(name, k, e)
					}
				}
			}
		}
	}
	// What is whole isn't written again.
	x := st
	x.Left = 10
	if x, e := Mend(x, "n"); e != api.OK || x.Left != 0 {
		t.Error(e)
	}
	x = bent(t, st, 0, "n")
	x.Left = 12
	if x, e := Mend(x, "n"); e != api.ErrGone || x.Left != 0 {
		t.Error(e)
	}
}

// P52.3
func TestNothingElse(t *testing.T) {
	x := bent(t, bent(t, bent(t, store(t), 0, "n"), 2, "n"), 3, "n")
	if after, e := Mend(x, "n"); e != api.ErrLost || !sameObjs(after, x) {
		t.Error(e)
	}
	if after, e := Mend(x, "none"); e != api.ErrNone || !sameObjs(after, x) {
		t.Error(e)
	}
}

// P52.1
func TestAll(t *testing.T) {
	v, l, e := vault.New(api.Store{Left: -1}, api.Key{1}, strings.Repeat("n", 64), 0, api.Policy{Days: 1})
	for _, data := range []string{"a", "b", "c"} {
		v, _, _ = vault.Put(v, data)
		v, _ = vault.Flush(v)
	}
	v, e = vault.Admit(v, api.Chan{Machine: "m"})
	if e != api.OK {
		t.Fatal(e)
	}
	v, e = vault.Tick(v, 1)
	if got, lost, f := All(v); e != api.OK || f != api.OK || lost != nil || !sameObjs(got.Store, v.Store) {
		t.Error(lost, f)
	}
	x := v
	x.Store.Shelves[1].Objs, x.Store.Shelves[3].Objs = nil, nil
	got, lost, e := All(x)
	if e != api.OK || lost != nil {
		t.Error(lost, e)
	}
	got.Store.Shelves[0].Objs, got.Store.Shelves[2].Objs = nil, nil
	if o, e := vault.Open(got.Store, l[:3]); e != api.OK || len(o.Root.Packs) != 3 {
		t.Error(e)
	}
	second := v.Root.Packs[1].Name
	for _, i := range []int{0, 1, 4} {
		x.Store.Shelves[i] = bent(t, v.Store, i, second).Shelves[i]
	}
	x.Store.Shelves[3] = v.Store.Shelves[3]
	if _, lost, e := All(x); e != api.OK || !slices.Equal(lost, []string{second}) {
		t.Error(lost, e)
	}
	x.Store.Left = 25
	if got, lost, e := All(x); e != api.ErrGone || lost != nil || got.Store.Left != 0 {
		t.Error(lost, e)
	}
}
