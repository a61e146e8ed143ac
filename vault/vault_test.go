package vault

import (
	"slices"
	"strings"
	"testing"

	"hibernacle/api"
	"hibernacle/chunk"
	"hibernacle/hash"
	"hibernacle/manifest"
	"hibernacle/names"
	"hibernacle/pack"
	"hibernacle/root"
	"hibernacle/spread"
)

var policy = api.Policy{Days: 3}

func noise(c byte) string { return strings.Repeat(string([]byte{c, 3}), 32) }

func begun(t *testing.T) (api.Vault, []api.Share) {
	t.Helper()
	v, l, e := New(api.Store{Left: -1}, api.Key{1}, noise(1), 50, policy)
	if e != api.OK || len(l) != 5 {
		t.Fatal(e)
	}
	return v, l
}

func put(t *testing.T, v api.Vault, data string) (api.Vault, string) {
	t.Helper()
	v, name, e := Put(v, data)
	if e != api.OK {
		t.Fatal(e)
	}
	return v, name
}

func snap(machine string, n int, names ...string) api.Snap {
	return api.Snap{Machine: machine, N: n, At: 1, Pages: 1, Blocks: 1, Chunks: [3][]string{names}, Sum: hash.Sum("s")}
}

func commit(t *testing.T, v api.Vault, s api.Snap) api.Vault {
	t.Helper()
	v, e := Commit(v, s)
	if e != api.OK {
		t.Fatal(e)
	}
	return v
}

func gets(t *testing.T, v api.Vault, name, want string) {
	t.Helper()
	if _, got, e := Get(v, name); e != api.OK || got != want {
		t.Errorf("%.20q %d", got, e)
	}
}

func noRandom(n int) string {
	b, x := make([]byte, n), uint32(n)
	for i := range b {
		x = x*1664525 + 1013904223
		b[i] = byte(x >> 24)
	}
	return string(b)
}

func alone(v api.Vault) bool {
	return v.Ring.Epochs == nil && v.Keys.All == nil && v.Root.N == 0 && v.Pending == nil && v.Pins == nil
}

// P45.1
func TestNew(t *testing.T) {
	v, l := begun(t)
	if v.Root.N != 1 || v.Root.Now != 50 || v.Root.Policy != policy || len(v.Ring.Epochs) != 1 || len(v.Keys.All) != 1 {
		t.Error(v.Root)
	}
	if _, _, _, r, e := root.Load(v.Store, l[2:]); e != api.OK || r.N != 1 {
		t.Error(e)
	}
	quiet := api.Store{Left: -1}
	for i := range 3 {
		quiet.Shelves[i].Fates = []int{4, 4}
	}
	for i, c := range []struct {
		st    api.Store
		noise string
		now   int64
		p     api.Policy
		want  api.Errno
	}{
		{v.Store, "", -1, policy, api.ErrRange}, {v.Store, "", 1000000000001, policy, api.ErrRange}, {v.Store, "", 0, policy, api.ErrArg}, {v.Store, noise(1), 0, policy, api.ErrTwice}, {quiet, noise(1), 0, policy, api.ErrLost}, {api.Store{Left: 3}, noise(1), 0, policy, api.ErrGone}, {api.Store{Left: 7}, noise(1), 0, policy, api.ErrGone}, {api.Store{Left: -1}, noise(1), 0, api.Policy{Days: -1}, api.ErrRange},
	} {
		got, l, e := New(c.st, api.Key{1}, c.noise, c.now, c.p)
		if e != c.want || l != nil || !alone(got) || c.st.Left > 0 && got.Store.Left != 0 {
			t.Error(i, e)
		}
	}
}

// P45.2, P45.9
func TestOpen(t *testing.T) {
	v, l := begun(t)
	v, name := put(t, v, "a")
	v = commit(t, v, snap("m", 1, name))
	o, e := Open(v.Store, l[1:4])
	if e != api.OK || len(o.Root.Refs) != 1 || o.Root.Refs[0].At != 50 || o.Pending != nil || o.Pins != nil {
		t.Fatal(e)
	}
	gets(t, o, name, "a")
	_, b, e := Get(o, o.Root.Refs[0].Name)
	if s, f := manifest.Of(b); e != api.OK || f != api.OK || s.N != 1 {
		t.Error(e, f)
	}
	if o, e := Open(v.Store, l[:2]); e != api.ErrArg || !alone(o) || len(o.Store.Shelves[0].Objs) == 0 {
		t.Error(e)
	}
}

// P45.3
func TestAdmitTick(t *testing.T) {
	v, l := begun(t)
	v, e := Admit(v, api.Chan{Machine: "m", N: 7, Key: api.Key{9}})
	if e != api.OK || v.Root.N != 2 || !slices.Equal(v.Root.Chans, []api.Chan{{Machine: "m", N: 7, Key: api.Key{9}}}) {
		t.Error(e)
	}
	for name, want := range map[string]api.Errno{"M": api.ErrName, "": api.ErrName, "m": api.ErrTwice} {
		if got, e := Admit(v, api.Chan{Machine: name}); e != want || got.Root.N != 2 {
			t.Error(name, e)
		}
	}
	for now, want := range map[int64]api.Errno{50: api.OK, 49: api.ErrOld, -1: api.ErrOld, 1000000000001: api.ErrRange} {
		if got, e := Tick(v, now); e != want || got.Root.N != 2 || got.Root.Now != 50 {
			t.Error(now, e)
		}
	}
	v, e = Tick(v, 1000000000000)
	if o, f := Open(v.Store, l[:3]); e != api.OK || f != api.OK || o.Root.Now != 1000000000000 || o.Root.N != 3 || len(o.Root.Chans) != 1 {
		t.Error(e, f)
	}
	v.Store.Left = 2
	if got, e := Admit(v, api.Chan{Machine: "k"}); e != api.ErrGone || got.Root.N != 3 || len(got.Root.Chans) != 1 || got.Store.Left != 0 {
		t.Error(e)
	}
}

// P45.4, P45.9: what is put twice is there once.
func TestPut(t *testing.T) {
	v, _ := begun(t)
	v, a := put(t, v, "a")
	if a != chunk.Name(v.Keys, "a") || !Has(v, a) || Has(v, "x") || !slices.Equal(v.Pins, []string{a}) || len(v.Pending) != 1 {
		t.Error(v.Pins)
	}
	again, _ := put(t, v, "a")
	if len(again.Pending) != 1 || len(again.Pins) != 1 {
		t.Error("put twice")
	}
	if got, name, e := Put(v, strings.Repeat("x", 32769)); e != api.ErrLimit || name != "" || len(got.Pins) != 1 {
		t.Error(e)
	}
	if got, name, e := Put(api.Vault{}, "x"); e != api.ErrArg || name != "" || got.Pins != nil {
		t.Error(e)
	}
	// More than 32768 bytes of boxes' Data: what was ahead is flushed.
	one, _ := chunk.Seal(v.Keys, "a")
	room := 32768 - len(one.Data)
	big := ""
	for n := room; big == ""; n-- {
		if box, _ := chunk.Seal(v.Keys, noRandom(n)); len(box.Data) == room {
			big = noRandom(n)
		}
	}
	full, name := put(t, v, big)
	if len(full.Pending) != 2 || len(full.Root.Packs) != 0 {
		t.Error("just as much as may be")
	}
	more, _ := put(t, full, "b")
	if len(more.Pending) != 1 || len(more.Root.Packs) != 1 || more.Root.N != 1 || len(more.Pins) != 3 {
		t.Error(len(more.Pending))
	}
	gets(t, more, name, big)
	gets(t, more, a, "a")
	full.Store.Left = 1
	if got, name, e := Put(full, "b"); e != api.ErrGone || name != "" || len(got.Pending) != 2 || len(got.Pins) != 2 || got.Store.Left != 0 || len(got.Root.Packs) != 0 {
		t.Error(e)
	}
	// One box alone may be greater than that.
	alone, _ := begun(t)
	alone, name = put(t, alone, noRandom(32768))
	alone, e := Flush(alone)
	if e != api.OK {
		t.Error(e)
	}
	gets(t, alone, name, noRandom(32768))
}

// P45.5
func TestGet(t *testing.T) {
	v, _ := begun(t)
	v, a := put(t, v, "a")
	v, _ = Flush(v)
	packName := v.Root.Packs[0].Name
	if _, got, e := Get(v, "x"); e != api.ErrNone || got != "" {
		t.Error(e)
	}
	if _, data, e := spread.Read(v.Store, packName); e != api.OK || pack.Name(data) != packName {
		t.Error(e)
	}
	others, _ := pack.Make([]api.Box{{Name: "y"}})
	for i, c := range []struct {
		data string
		want api.Errno
	}{{others, api.ErrSum}, {"x", api.ErrSum}} {
		bent := v
		bent.Store, _ = spread.Write(v.Store, packName, c.data)
		if _, got, e := Get(bent, a); e != c.want || got != "" {
			t.Error(i, e)
		}
	}
	named := v
	named.Root.Packs = []api.Packed{{Name: pack.Name(others), Places: []api.Place{{Name: a}}}, v.Root.Packs[0]}
	named.Store, _ = spread.Write(v.Store, pack.Name(others), others)
	if _, _, e := Get(named, a); e != api.ErrNone {
		t.Error("the first pack counts", e)
	}
	named.Root.Packs[0].Name = pack.Name("x")
	named.Store, _ = spread.Write(v.Store, pack.Name("x"), "x")
	if _, _, e := Get(named, a); e != api.ErrForm {
		t.Error(e)
	}
	for i := range 3 {
		v.Store.Shelves[i].Fates = []int{4}
	}
	after, _, e := Get(v, a)
	if e != api.ErrLost || len(after.Store.Shelves[0].Fates) != 0 {
		t.Error(e)
	}
	gets(t, after, a, "a")
}

// P45.6
func TestFlush(t *testing.T) {
	v, _ := begun(t)
	if got, e := Flush(v); e != api.OK || len(got.Root.Packs) != 0 {
		t.Error(e)
	}
	v, a := put(t, v, "a")
	v, b := put(t, v, "b")
	boxes := v.Pending
	f, e := Flush(v)
	data, _ := pack.Make(boxes)
	places, _ := pack.Of(data)
	if e != api.OK || len(f.Root.Packs) != 1 || f.Root.Packs[0].Name != pack.Name(data) || !slices.Equal(f.Root.Packs[0].Places, places) || f.Pending != nil || f.Root.N != 1 || !Has(f, a) || !Has(f, b) {
		t.Error(e)
	}
	v.Store.Left = 4
	if f, e := Flush(v); e != api.ErrGone || len(f.Pending) != 2 || len(f.Root.Packs) != 0 || f.Store.Left != 0 {
		t.Error(e)
	}
	v.Pending = append(v.Pending, api.Box{Name: "z", Data: strings.Repeat("z", 65536)})
	if f, e := Flush(v); e != api.ErrLimit || len(f.Pending) != 3 {
		t.Error(e)
	}
}

// P45.7
func TestCommit(t *testing.T) {
	v, l := begun(t)
	v, a := put(t, v, "a")
	for i, c := range []struct {
		s    api.Snap
		want api.Errno
	}{{api.Snap{}, api.ErrName}, {snap("m", 2, a), api.ErrRange}, {snap("m", 1, a, chunk.Name(v.Keys, "none")), api.ErrNone}, {snap("m", 2, chunk.Name(v.Keys, "none")), api.ErrRange}} {
		if got, e := Commit(v, c.s); e != c.want || got.Root.N != 1 || len(got.Pending) != 1 {
			t.Error(i, e)
		}
	}
	v = commit(t, v, snap("m", 1, a))
	b, _ := manifest.Bytes(snap("m", 1, a))
	want := api.Ref{Machine: "m", N: 1, At: 50, Name: chunk.Name(v.Keys, b)}
	if !slices.Equal(v.Root.Refs, []api.Ref{want}) || v.Root.N != 2 || v.Pending != nil || !slices.Contains(v.Pins, want.Name) {
		t.Error(v.Root.Refs)
	}
	// Once more it is OK, and nothing is done.
	if got, e := Commit(v, snap("m", 1, a)); e != api.OK || got.Root.N != 2 {
		t.Error(e)
	}
	other := snap("m", 1, a)
	other.At = 9
	if _, e := Commit(v, other); e != api.ErrRange {
		t.Error(e)
	}
	v = commit(t, v, snap("k", 1, a))
	v = commit(t, v, snap("m", 2, a))
	if _, e := Commit(v, snap("m", 1, a)); e != api.ErrRange {
		t.Error("it isn't the last one any more", e)
	}
	v.Root.Refs = append(v.Root.Refs, slices.Repeat(v.Root.Refs[2:], 197)...)
	if _, e := Commit(v, snap("m", 3, a)); e != api.ErrLimit {
		t.Error(e)
	}
	if _, e := Commit(v, snap("m", 3, chunk.Name(v.Keys, "none"))); e != api.ErrNone {
		t.Error(e)
	}
	_ = l
}

// P45.7, P45.9, T13: wherever the power is gone.
func TestPower(t *testing.T) {
	v, l := begun(t)
	v, a := put(t, v, "a")
	v = commit(t, v, snap("m", 1, a))
	v, b := put(t, v, "b")
	for left := range 30 {
		x := v
		x.Store.Left = left
		x, e := Commit(x, snap("m", 2, a, b))
		st := x.Store
		st.Left = -1
		st.Shelves[left%5].Objs = nil
		o, f := Open(st, l[2:])
		if f != api.OK || len(o.Root.Refs) < 1 || e == api.OK && len(o.Root.Refs) != 2 {
			t.Fatal(left, e, f, len(o.Root.Refs))
		}
		gets(t, o, a, "a")
		if len(o.Root.Refs) == 2 {
			gets(t, o, b, "b")
		}
		// It goes on, and comes to its end.
		x.Store.Left = -1
		if x, e = Commit(x, snap("m", 2, a, b)); e != api.OK || len(x.Root.Refs) != 2 {
			t.Fatal(left, e)
		}
	}
}

// P45.8, T19
func TestRotate(t *testing.T) {
	v, l := begun(t)
	v, a := put(t, v, "a")
	v = commit(t, v, snap("m", 1, a))
	r, shares, e := Rotate(v, api.Key{2}, noise(2))
	if e != api.OK || len(shares) != 5 || len(r.Keys.All) != 2 || r.Root.N != 3 || len(r.Root.Refs) != 1 {
		t.Fatal(e)
	}
	if _, l, _ := spread.Names(r.Store, names.RootFront); !slices.Equal(l, []string{"root/00000003"}) {
		t.Error(l)
	}
	if _, e := Open(r.Store, l[:3]); e != api.ErrKey {
		t.Error("elder shares open it", e)
	}
	o, e := Open(r.Store, shares[2:])
	if e != api.OK {
		t.Fatal(e)
	}
	gets(t, o, a, "a")
	o, b := put(t, o, "b")
	o = commit(t, o, snap("m", 2, a, b))
	gets(t, o, b, "b")
	if got, l, e := Rotate(v, api.Key{1}, noise(2)); e != api.ErrTwice || l != nil || got.Root.N != 2 {
		t.Error(e)
	}
	for left := range 5 {
		x := v
		x.Store.Left = left
		x, s, e := Rotate(x, api.Key{2}, noise(2))
		if e != api.ErrGone || s != nil || len(x.Keys.All) != 1 || len(x.Ring.Epochs) != 1 || x.Root.N != 2 || x.Store.Left != 0 {
			t.Error(left, e)
		}
	}
}

// P45.9, T5: whatever two shelves tell.
func TestLies(t *testing.T) {
	v, l := begun(t)
	var all []string
	for _, data := range []string{"a", "b", noRandom(3000)} {
		var name string
		v, name = put(t, v, data)
		all = append(all, name)
		v, _ = Flush(v)
	}
	v = commit(t, v, snap("m", 1, all...))
	for i := range 5 {
		for f := range 5 {
			x := v.Store
			x.Shelves[i].Fates = slices.Repeat([]int{f}, 50)
			x.Shelves[(i+1+f)%5].Objs = nil
			o, e := Open(x, l[:3])
			if e != api.OK {
				t.Fatal(i, f, e)
			}
			for j, data := range []string{"a", "b", noRandom(3000)} {
				gets(t, o, all[j], data)
			}
		}
	}
}

// P45.1: the last minute that may be.
func TestLastMinute(t *testing.T) {
	if v, _, e := New(api.Store{Left: -1}, api.Key{1}, noise(1), 1000000000000, policy); e != api.OK || v.Root.Now != 1000000000000 {
		t.Error(e)
	}
}
