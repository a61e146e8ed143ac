package restore

import (
	"slices"
	"strings"
	"testing"

	"hibernacle/api"
	"hibernacle/chunk"
	"hibernacle/image"
	"hibernacle/machine"
	"hibernacle/manifest"
	"hibernacle/progs"
	"hibernacle/vault"
)

func boots(t *testing.T) api.Machine {
	t.Helper()
	v, _ := progs.Disk(120, 8, "bank")
	m, e := machine.New(api.Config{Frames: 16, Quantum: 5, Init: "/bank"}, v)
	if e == api.OK {
		m, e = machine.Feed(m, "m 1 2 3\ny\ns\n", false)
	}
	if e != api.OK {
		t.Fatal(e)
	}
	m, _ = machine.Run(m, 150)
	return m
}

func begun(t *testing.T) (api.Vault, []api.Share) {
	t.Helper()
	v, l, e := vault.New(api.Store{Left: -1}, api.Key{1}, strings.Repeat("n", 64), 0, api.Policy{Days: 1})
	if e != api.OK {
		t.Fatal(e)
	}
	return v, l
}

// put puts a text's pieces, and tells their names.
func put(t *testing.T, v api.Vault, l []string) (api.Vault, []string) {
	t.Helper()
	var out []string
	for _, data := range l {
		var name string
		var e api.Errno
		if v, name, e = vault.Put(v, data); e != api.OK {
			t.Fatal(e)
		}
		out = append(out, name)
	}
	return v, out
}

// backed is the vault with a snapshot of an image, cut anywhere, that turn may turn.
func backed(t *testing.T, v api.Vault, x api.Image, clock uint64, turn func(s *api.Snap)) api.Vault {
	t.Helper()
	s := api.Snap{Machine: "m", N: len(v.Root.Refs) + 1, Clock: clock, Pages: len(x.Frames), Blocks: len(x.Blocks), Sum: image.Sum(x)}
	v, s.Chunks[0] = put(t, v, x.Frames)
	v, s.Chunks[1] = put(t, v, chunk.Cut(strings.Join(x.Blocks, "")))
	v, s.Chunks[2] = put(t, v, []string{"", x.Rest[:5], x.Rest[5:], ""})
	turn(&s)
	v, e := vault.Commit(v, s)
	if e != api.OK {
		t.Fatal(e)
	}
	return v
}

func as(s *api.Snap) {}

func noImage(x api.Image) bool { return x.Frames == nil && x.Blocks == nil && x.Rest == "" }

// P54.1 to P54.5
func TestBack(t *testing.T) {
	m := boots(t)
	x := image.Of(m)
	v, l := begun(t)
	v = backed(t, v, x, m.Clock, as)
	o, e := vault.Open(v.Store, l[1:4])
	if e != api.OK {
		t.Fatal(e)
	}
	for _, v := range []api.Vault{v, o} {
		_, s, e := Snap(v, "m", 1)
		if e != api.OK || s.N != 1 || s.Machine != "m" || s.Sum != image.Sum(x) {
			t.Error(e)
		}
		if _, l, e := Missing(v, "m", 1); e != api.OK || l != nil {
			t.Error(l, e)
		}
		if _, got, e := Image(v, "m", 1); e != api.OK || image.Bytes(got) != image.Bytes(x) {
			t.Error(e)
		}
		_, got, e := Machine(v, "m", 1)
		if e != api.OK || !machine.Same(got, m) {
			t.Error(e)
		}
		a, told := machine.Run(got, 500)
		b, want := machine.Run(m, 500)
		if told != want || !machine.Same(a, b) || told == "" {
			t.Error("it doesn't go on so")
		}
	}
}

// P54.1
func TestSnapErrors(t *testing.T) {
	x := image.Of(boots(t))
	v, _ := begun(t)
	v = backed(t, v, x, 0, as)
	v, other := put(t, v, []string{"no manifest"})
	name := v.Root.Refs[0].Name
	for i, c := range []struct {
		machine string
		n       int
		ref     api.Ref
		want    api.Errno
	}{
		{"m", 2, api.Ref{}, api.ErrNone}, {"k", 1, api.Ref{}, api.ErrNone}, {"k", 1, api.Ref{Machine: "k", N: 1, Name: chunk.Name(v.Keys, "none")}, api.ErrNone}, {"k", 1, api.Ref{Machine: "k", N: 1, Name: other[0]}, api.ErrShort}, {"k", 1, api.Ref{Machine: "k", N: 1, Name: name}, api.ErrDiff}, {"m", 7, api.Ref{Machine: "m", N: 7, Name: name}, api.ErrDiff},
	} {
		w := v
		w.Root.Refs = append(slices.Clone(v.Root.Refs), c.ref)
		_, s, e := Snap(w, c.machine, c.n)
		_, l, f := Missing(w, c.machine, c.n)
		_, x, g := Image(w, c.machine, c.n)
		_, m, h := Machine(w, c.machine, c.n)
		if e != c.want || f != c.want || g != c.want || h != c.want || s.N != 0 || l != nil || !noImage(x) || m.Quantum != 0 {
			t.Error(i, e, f, g, h)
		}
	}
}

// P54.2: a chunk that isn't there.
func TestMissing(t *testing.T) {
	v, _ := begun(t)
	x := image.Of(boots(t))
	v = backed(t, v, x, 0, as)
	v.Root.Packs = slices.Clone(v.Root.Packs)
	lost := v.Root.Packs[0].Places[0].Name
	v.Root.Packs[0].Places = v.Root.Packs[0].Places[1:]
	if _, l, e := Missing(v, "m", 1); e != api.OK || !slices.Equal(l, []string{lost}) {
		t.Error(l, e)
	}
	if _, x, e := Image(v, "m", 1); e != api.ErrNone || !noImage(x) {
		t.Error(e)
	}
	// The example: its only chunk isn't there.
	v, _ = begun(t)
	v, l := put(t, v, []string{"only"})
	v, e := vault.Commit(v, api.Snap{Machine: "m", N: 1, Pages: 1, Blocks: 1, Chunks: [3][]string{l}})
	if e != api.OK {
		t.Fatal(e)
	}
	v.Root.Packs[0].Places = v.Root.Packs[0].Places[1:]
	if _, got, e := Missing(v, "m", 1); e != api.OK || !slices.Equal(got, l) {
		t.Error(got, e)
	}
	if _, _, e := Image(v, "m", 1); e != api.ErrNone {
		t.Error(e)
	}
}

// P54.3, P54.4
func TestImageErrors(t *testing.T) {
	m := boots(t)
	x := image.Of(m)
	bad := x
	bad.Rest = "no machine's"
	v, _ := begun(t)
	var want []api.Errno
	for _, c := range []struct {
		x    api.Image
		turn func(s *api.Snap)
		e    api.Errno
	}{
		{x, func(s *api.Snap) { s.Pages++ }, api.ErrForm}, {x, func(s *api.Snap) { s.Blocks-- }, api.ErrForm}, {x, func(s *api.Snap) { s.Chunks[0] = s.Chunks[0][1:] }, api.ErrForm}, {x, func(s *api.Snap) { s.Chunks[1], s.Chunks[2] = s.Chunks[2], s.Chunks[1] }, api.ErrForm},
		{x, func(s *api.Snap) { s.Sum[0] ^= 1 }, api.ErrSum}, {x, func(s *api.Snap) { slices.Reverse(s.Chunks[0]) }, api.ErrSum}, {bad, as, api.ErrForm}, {x, func(s *api.Snap) { s.Clock++ }, api.ErrDiff}, {x, as, api.OK},
	} {
		v = backed(t, v, c.x, m.Clock, c.turn)
		want = append(want, c.e)
	}
	for i, e := range want {
		_, got, f := Machine(v, "m", i+1)
		if f != e || f != api.OK && got.Quantum != 0 {
			t.Error(i, f)
		}
		_, x, g := Image(v, "m", i+1)
		if i >= 6 && g != api.OK || i < 6 && (g != e || !noImage(x)) {
			t.Error(i, g)
		}
	}
}

// P54.4: each chunk is got once, and the vault is as that left it.
func TestGets(t *testing.T) {
	m := boots(t)
	v, _ := begun(t)
	v = backed(t, v, image.Of(m), m.Clock, as)
	for i := range v.Store.Shelves {
		v.Store.Shelves[i].Fates = make([]int, 5000)
	}
	_, s, _ := Snap(v, "m", 1)
	gets := 1 + len(s.Chunks[0]) + len(s.Chunks[1]) + len(s.Chunks[2])
	a, _, e := Image(v, "m", 1)
	b, _, f := Machine(v, "m", 1)
	c, _, g := Missing(v, "m", 1)
	if e != api.OK || f != api.OK || g != api.OK || len(a.Store.Shelves[0].Fates) != 5000-gets || len(b.Store.Shelves[0].Fates) != 5000-gets || len(c.Store.Shelves[0].Fates) != 5000-1-len(manifest.Names(s)) {
		t.Error(e, f, g, len(a.Store.Shelves[0].Fates), gets)
	}
}
