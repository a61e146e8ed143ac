package collect

import (
	"slices"
	"strings"
	"testing"

	"hibernacle/api"
	"hibernacle/chunk"
	"hibernacle/hold"
	"hibernacle/manifest"
	"hibernacle/pack"
	"hibernacle/spread"
	"hibernacle/vault"
)

func begun(t *testing.T) (api.Vault, []api.Share) {
	t.Helper()
	v, l, e := vault.New(api.Store{Left: -1}, api.Key{1}, strings.Repeat("n", 64), 0, api.Policy{Days: 1})
	if e != api.OK {
		t.Fatal(e)
	}
	return v, l
}

func put(t *testing.T, v api.Vault, data string) (api.Vault, string) {
	t.Helper()
	v, name, e := vault.Put(v, data)
	if e != api.OK {
		t.Fatal(e)
	}
	return v, name
}

func commit(t *testing.T, v api.Vault, n int, names ...string) api.Vault {
	t.Helper()
	v, e := vault.Commit(v, api.Snap{Machine: "m", N: n, Pages: 1, Blocks: 1, Chunks: [3][]string{names}})
	if e != api.OK {
		t.Fatal(e)
	}
	return v
}

func reopened(t *testing.T, v api.Vault, l []api.Share) api.Vault {
	t.Helper()
	v, e := vault.Open(v.Store, l[:3])
	if e != api.OK {
		t.Fatal(e)
	}
	return v
}

func step(t *testing.T, v api.Vault, want bool) api.Vault {
	t.Helper()
	v, did, e := Step(v)
	if e != api.OK || did != want {
		t.Fatal(did, e)
	}
	return v
}

// data is bytes that don't become shorter.
func data(n int) string {
	b, x := make([]byte, 200), uint32(n)
	for i := range b {
		x = x*1664525 + 1013904223
		b[i] = byte(x >> 24)
	}
	return string(b)
}

// P51.1
func TestExamples(t *testing.T) {
	v, l := begun(t)
	v = step(t, v, false)
	v, _ = put(t, v, "a")
	v, _ = vault.Flush(v)
	v = step(t, v, false)
	v = reopened(t, v, l)
	v = step(t, v, true)
	if _, names, _ := spread.Names(v.Store, "pack/"); names != nil {
		t.Error(names)
	}
	step(t, v, false)
}

// P51.1
func TestLiveDead(t *testing.T) {
	v, l := begun(t)
	v, a := put(t, v, "a")
	v, b := put(t, v, "b")
	v, c := put(t, v, "c")
	v = commit(t, v, 1, a, b)
	s := v.Root.Refs[0].Name
	want := []string{a, b, s}
	slices.Sort(want)
	if _, got, e := Live(v); e != api.OK || !slices.Equal(got, want) {
		t.Error(got, e)
	}
	if _, got, e := Dead(v); e != api.OK || got != nil {
		t.Error("what is pinned isn't dead", got, e)
	}
	o := reopened(t, v, l)
	if _, got, e := Dead(o); e != api.OK || !slices.Equal(got, []string{c}) {
		t.Error(got, e)
	}
	bad := o
	bad.Root.Refs = []api.Ref{{Machine: "m", N: 1, Name: a}}
	if _, got, e := Live(bad); e == api.OK || got != nil {
		t.Error(e)
	}
	if _, got, e := Dead(bad); e == api.OK || got != nil {
		t.Error(e)
	}
	bad.Root.Refs[0].Name = chunk.Name(v.Keys, "none")
	if _, _, e := Live(bad); e != api.ErrNone {
		t.Error(e)
	}
	if _, did, e := Step(bad); did || e != api.ErrNone {
		t.Error(e)
	}
}

// P51.1: the acts of a step, in their order.
func TestStep(t *testing.T) {
	v, l := begun(t)
	v, a := put(t, v, data(1))
	v, b := put(t, v, data(2))
	v = commit(t, v, 1, a)
	first := v.Root.Packs[0].Name
	v, c := put(t, v, data(3))
	v, d := put(t, v, data(4))
	v, f := put(t, v, data(5))
	v = commit(t, v, 2, a, f)
	v, _ = vault.Tick(v, 3000)
	o := reopened(t, v, l)
	// Snapshot 1 may go: that of the later N stays.
	o = step(t, o, true)
	if len(o.Root.Refs) != 1 || o.Root.Refs[0].N != 2 || len(o.Root.Packs) != 2 {
		t.Fatal(o.Root.Refs)
	}
	_, dead, _ := Dead(o)
	if len(dead) != 4 || !slices.Contains(dead, b) || !slices.Contains(dead, c) || !slices.Contains(dead, d) {
		t.Error(len(dead))
	}
	// More than half of the first pack is dead: it is made anew.
	n := o.Root.N
	o = step(t, o, true)
	if o.Root.Packs[0].Name == first || len(o.Root.Packs[0].Places) != 1 || o.Root.Packs[0].Places[0].Name != a || o.Root.N != n+1 {
		t.Error(o.Root.Packs)
	}
	for did := true; did; {
		var e api.Errno
		if o, did, e = Step(o); e != api.OK {
			t.Fatal(e)
		}
	}
	_, names, _ := spread.Names(o.Store, "pack/")
	if len(names) != len(o.Root.Packs) || vault.Has(o, b) || !vault.Has(o, a) || !vault.Has(o, f) {
		t.Error(names)
	}
	for _, name := range []string{a, f} {
		if _, _, e := vault.Get(o, name); e != api.OK {
			t.Error(e)
		}
	}
}

// P51.1: a pack that is another one than its name says is told, and one of which nothing is needed goes.
func TestPacks(t *testing.T) {
	v, l := begun(t)
	v, a := put(t, v, data(1))
	v, _ = put(t, v, data(2))
	v, _ = put(t, v, data(3))
	v = commit(t, v, 1, a)
	v, _ = put(t, v, data(4))
	v, _ = vault.Flush(v)
	v, _ = vault.Tick(v, 1)
	o := reopened(t, v, l)
	bent := o
	other, _ := pack.Make([]api.Box{{Name: "x"}})
	bent.Store, _ = spread.Write(o.Store, o.Root.Packs[0].Name, other)
	if _, did, e := Step(bent); did || e != api.ErrSum {
		t.Error(did, e)
	}
	last := o.Root.Packs[1].Name
	o = step(t, o, true)
	if len(o.Root.Packs) != 1 || o.Root.Packs[0].Name == last {
		t.Error("the pack of which nothing is needed goes first")
	}
	if _, _, e := spread.Read(o.Store, last); e != api.ErrNone {
		t.Error(e)
	}
	quiet := o
	quiet.Store.Left = 0
	if _, did, e := Step(quiet); did || e != api.ErrGone {
		t.Error(e)
	}
	// An object that no root names goes, whatever it is.
	for did := true; did; {
		o, did, _ = Step(o)
	}
	o.Store, _ = spread.Post(o.Store, "pack/stray", "x")
	o = step(t, o, true)
	step(t, o, false)
}

// needs tells whether all that is needed of a vault is there.
func needs(t *testing.T, v api.Vault, n int) {
	t.Helper()
	for _, x := range v.Root.Refs {
		_, b, e := vault.Get(v, x.Name)
		s, f := manifest.Of(b)
		if e != api.OK || f != api.OK {
			t.Fatal(n, e, f)
		}
		for _, name := range manifest.Names(s) {
			if _, _, e := vault.Get(v, name); e != api.OK {
				t.Fatal(n, e)
			}
		}
	}
	for _, name := range v.Pins {
		if _, _, e := vault.Get(v, name); e != api.OK {
			t.Fatal(n, e)
		}
	}
}

// P51.2, P51.3, T11: wherever the power is gone.
func TestPower(t *testing.T) {
	v, l := begun(t)
	var names []string
	for i := range 12 {
		var name string
		v, name = put(t, v, data(i))
		names = append(names, name)
		if i%3 == 2 {
			v = commit(t, v, i/3+1, names[i-i%3], names[0])
			v, _ = vault.Tick(v, int64(i)*700)
		}
	}
	r, e := hold.Set(v.Root, "m", 1, 1<<40)
	if e != api.OK {
		t.Fatal(e)
	}
	v.Root = r
	v, _ = vault.Tick(v, 20000)
	o := reopened(t, v, l)
	o, pinned := put(t, o, "pinned")
	for left := range 60 {
		x := o
		x.Store.Left = left
		for i := 0; ; i++ {
			var did bool
			x, did, e = Step(x)
			x.Store.Left = -1
			needs(t, x, left)
			y := reopened(t, x, l)
			needs(t, y, left)
			if e == api.OK && !did {
				break
			}
			if i > 100 {
				t.Fatal("it comes to no end")
			}
		}
		if len(x.Root.Refs) < 2 || x.Root.Refs[0].N != 1 || !vault.Has(x, pinned) {
			t.Fatal(left, x.Root.Refs)
		}
		_, dead, _ := Dead(x)
		_, there, _ := spread.Names(x.Store, "pack/")
		if len(there) != len(x.Root.Packs) {
			t.Fatal(left, there)
		}
		for _, p := range x.Root.Packs {
			all, gone := 0, 0
			for _, y := range p.Places {
				all += y.Len
				if slices.Contains(dead, y.Name) {
					gone += y.Len
				}
			}
			if 2*gone > all {
				t.Fatal(left, "more than half is dead")
			}
		}
	}
}

// P51.1: a pack just half of which is dead stays as it is; one of which more is dead, and that was bent, is told.
func TestHalf(t *testing.T) {
	v, l := begun(t)
	v, a := put(t, v, data(1))
	v, _ = put(t, v, data(2))
	v, _ = vault.Flush(v)
	half := reopened(t, commit(t, v, 1, a), l)
	if p := half.Root.Packs[0].Places; len(p) != 2 || p[0].Len != p[1].Len {
		t.Fatal(p)
	}
	step(t, half, false)
	v, _ = begun(t)
	v, a = put(t, v, data(1))
	v, _ = put(t, v, data(2))
	v, _ = put(t, v, data(3))
	v, _ = vault.Flush(v)
	more := reopened(t, commit(t, v, 1, a), l)
	name := more.Root.Packs[0].Name
	for left := range 60 {
		x := more
		x.Store.Left = left
		x, did, e := Step(x)
		if did == (e != api.OK) || e == api.OK && x.Root.Packs[0].Name == name || e != api.OK && (x.Root.Packs[0].Name != name || x.Root.N != more.Root.N) {
			t.Error(left, did, e)
		}
	}
	other, _ := pack.Make([]api.Box{{Name: "x"}})
	more.Store, _ = spread.Write(more.Store, name, other)
	if x, did, e := Step(more); did || e != api.ErrSum || x.Root.N != more.Root.N {
		t.Error(did, e)
	}
}

// P51.1: what a pack of which nothing is needed comes to, when its root can't be saved.
func TestDropPower(t *testing.T) {
	v, l := begun(t)
	v, a := put(t, v, data(1))
	v = commit(t, v, 1, a)
	v, _ = put(t, v, data(2))
	v, _ = vault.Flush(v)
	v, _ = vault.Tick(v, 1)
	o := reopened(t, v, l)
	for left := range 40 {
		x := o
		x.Store.Left = left
		x, did, e := Step(x)
		if did != (e == api.OK) || did && len(x.Root.Packs) != 1 || !did && (len(x.Root.Packs) != 2 || x.Root.N != o.Root.N) {
			t.Error(left, did, e)
		}
	}
}
