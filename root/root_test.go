package root

import (
	"math"
	"slices"
	"strings"
	"testing"

	"hibernacle/api"
	"hibernacle/hash"
	"hibernacle/keys"
	"hibernacle/num"
	"hibernacle/seal"
	"hibernacle/shelf"
	"hibernacle/spread"
)

func name(s string) string { return hash.Hex(hash.Sum(s)) }

func full() api.Root {
	return api.Root{
		N: 5, Now: 77,
		Refs:   []api.Ref{{Machine: "m", N: 1, At: 3, Name: name("a"), Until: 9}, {Machine: "m", N: 2, Name: name("b")}, {Machine: "k", N: 1, Name: name("a")}},
		Packs:  []api.Packed{{Name: "pack/" + name("p"), Places: []api.Place{{Name: name("a"), At: 3, Len: 4}, {Name: name("b")}}}, {Name: "pack/" + name("q")}},
		Policy: api.Policy{Days: 1, Weeks: 0, Months: 3, Years: 1000},
		Chans:  []api.Chan{{Machine: "m", N: math.MaxUint64, Key: api.Key{7}}, {Machine: "k"}},
	}
}

func same(a, b api.Root) bool {
	x, _ := Bytes(a)
	y, _ := Bytes(b)
	return x == y && x != "" || isZero(a) && isZero(b)
}

func isZero(r api.Root) bool {
	return r.N == 0 && r.Now == 0 && r.Refs == nil && r.Packs == nil && r.Chans == nil && r.Policy == (api.Policy{})
}

func noise(c byte) string { return strings.Repeat(string([]byte{c, 3}), 32) }

func ring(t *testing.T) (api.Ring, api.Keys, []api.Share) {
	t.Helper()
	r, k, l, e := keys.Make(api.Key{1}, noise(1))
	if e != api.OK {
		t.Fatal(e)
	}
	return r, k, l
}

// P42.1
func TestCheck(t *testing.T) {
	for i, c := range []struct {
		turn func(r *api.Root)
		want api.Errno
	}{
		{func(r *api.Root) {}, api.OK}, {func(r *api.Root) { *r = api.Root{N: 1} }, api.OK}, {func(r *api.Root) { r.N, r.Now = 99999999, 1000000000000 }, api.OK}, {func(r *api.Root) { r.N = 0; r.Refs = make([]api.Ref, 201) }, api.ErrRange}, {func(r *api.Root) { r.N = 100000000 }, api.ErrRange}, {func(r *api.Root) { r.Now = -1 }, api.ErrRange}, {func(r *api.Root) { r.Now = 1000000000001 }, api.ErrRange},
		{func(r *api.Root) { r.Refs = make([]api.Ref, 201) }, api.ErrLimit}, {func(r *api.Root) { r.Refs[0].Machine = "M"; r.Refs[0].N = 0 }, api.ErrName}, {func(r *api.Root) { r.Refs[0].N = 0; r.Refs[0].Name = "" }, api.ErrRange}, {func(r *api.Root) { r.Refs[0].N = 100000001 }, api.ErrRange}, {func(r *api.Root) { r.Refs[1].At = -1 }, api.ErrRange}, {func(r *api.Root) { r.Refs[1].At = 1000000000001 }, api.ErrRange}, {func(r *api.Root) { r.Refs[1].Until = -1 }, api.ErrRange},
		{func(r *api.Root) { r.Refs[1].Name = "x"; r.Refs[1].N = 1 }, api.ErrForm}, {func(r *api.Root) { r.Refs[1].N = 1; r.Refs[2].N = 0 }, api.ErrTwice}, {func(r *api.Root) { r.Refs[0].Until = math.MaxInt64 }, api.OK},
		{func(r *api.Root) { r.Packs[0].Name = name("p") }, api.ErrForm}, {func(r *api.Root) { r.Packs[0].Name = "pack/x" }, api.ErrForm}, {func(r *api.Root) { r.Packs[1] = api.Packed{Name: r.Packs[0].Name, Places: []api.Place{{}}} }, api.ErrTwice}, {func(r *api.Root) { r.Packs[0].Places[0] = api.Place{At: -1} }, api.ErrForm}, {func(r *api.Root) { r.Packs[0].Places[0].At = -1 }, api.ErrRange}, {func(r *api.Root) { r.Packs[0].Places[1].Len = -1 }, api.ErrRange},
		{func(r *api.Root) { r.Policy.Days = -1; r.Chans[0].Machine = "" }, api.ErrRange}, {func(r *api.Root) { r.Policy.Years = 1001 }, api.ErrRange}, {func(r *api.Root) { r.Policy = api.Policy{} }, api.OK}, {func(r *api.Root) { r.Chans[1].Machine = "m" }, api.ErrTwice}, {func(r *api.Root) { r.Chans[0].Machine = "" }, api.ErrName},
	} {
		r := full()
		c.turn(&r)
		if e := Check(r); e != c.want {
			t.Error(i, e)
		}
		if b, e := Bytes(r); e != c.want || (b == "") != (e != api.OK) {
			t.Error(i, e)
		}
	}
}

// P42.2
func TestBytes(t *testing.T) {
	r := full()
	b, _ := Bytes(r)
	want := num.Row(
		"hibr", "5", "77", num.Row(num.Row("m", "1", "3", name("a"), "9"), num.Row("m", "2", "0", name("b"), "0"), num.Row("k", "1", "0", name("a"), "0")),
		num.Row(num.Row("pack/"+name("p"), name("a"), "3", "4", name("b"), "0", "0"), num.Row("pack/"+name("q"))), "1", "0", "3", "1000",
		num.Row(num.Row("m", strings.Repeat("\xff", 8), "\x07"+strings.Repeat("\x00", 31)), num.Row("k", strings.Repeat("\x00", 8), strings.Repeat("\x00", 32))),
	)
	if b != want {
		t.Errorf("%q", b)
	}
	back, e := Of(b)
	if e != api.OK || !same(back, r) || !slices.Equal(back.Refs, r.Refs) || !slices.Equal(back.Chans, r.Chans) {
		t.Error(e)
	}
	parts, _ := num.Texts(b)
	for i, x := range []string{"hibs", "05", "x", num.Row(num.Row("m", "1", "3", name("a"))), num.Row(num.Row("pack/"+name("p"), name("a"), "3")), "-1", "", "1001", "+3", num.Row(num.Row("m", "x", "y"))} {
		l := slices.Clone(parts)
		l[i] = x
		if back, e := Of(num.Row(l...)); e != api.ErrForm || !isZero(back) {
			t.Error(i, e)
		}
	}
	for bad, want := range map[string]api.Errno{"": api.ErrForm, "\x09": api.ErrShort, b[:len(b)-1]: api.ErrShort, b + "\x00": api.ErrForm, "\x80\x00": api.ErrForm} {
		if back, e := Of(bad); e != want || !isZero(back) {
			t.Error(e)
		}
	}
}

// P42.3
func TestSave(t *testing.T) {
	rg, k, _ := ring(t)
	st := api.Store{Left: -1}
	r := full()
	st, e := Save(st, rg, k, r)
	if e != api.OK {
		t.Fatal(e)
	}
	b, _ := Bytes(r)
	ringBytes, _ := keys.Bytes(rg)
	key, _ := keys.Box(k, 0)
	sum := hash.Sum("root/00000005" + b)
	want := num.Row(ringBytes, seal.Seal(key, seal.Nonce(string(sum[:])), "root/00000005", b))
	for i := range st.Shelves {
		if _, got, e := shelf.Get(st.Shelves[i], "root/00000005"); e != api.OK || got != want {
			t.Error(i, e)
		}
	}
	other, _, _, _ := keys.Make(api.Key{2}, noise(2))
	for i, c := range []struct {
		ring api.Ring
		k    api.Keys
		r    api.Root
		want api.Errno
	}{{api.Ring{}, k, api.Root{}, api.ErrRange}, {api.Ring{}, k, r, api.ErrArg}, {other, k, r, api.ErrKey}} {
		if after, e := Save(st, c.ring, c.k, c.r); e != c.want || len(after.Shelves[0].Objs) != 1 {
			t.Error(i, e)
		}
	}
	r.N = 1
	r.Packs[0].Places = slices.Repeat([]api.Place{{Name: name("x"), At: 1000, Len: 1000}}, 1000)
	if _, e := Save(st, rg, k, r); e != api.ErrLimit {
		t.Error("too many bytes for one object", e)
	}
}

// P42.4, P42.5
func TestLoad(t *testing.T) {
	rg, k, l := ring(t)
	st := api.Store{Left: -1}
	if _, _, _, _, e := Load(st, l[:3]); e != api.ErrNone {
		t.Error(e)
	}
	for n := 1; n <= 4; n++ {
		r := full()
		r.N = n
		var e api.Errno
		if st, e = Save(st, rg, k, r); e != api.OK {
			t.Fatal(e)
		}
		if _, names, _ := spread.Names(st, ""); len(names) != min(n, 2) {
			t.Error(n, names)
		}
	}
	st, _ = spread.Post(st, "root/99999999", "no root")
	st, _ = spread.Post(st, "root/x", "no root")
	for f := range 5 {
		for g := range 5 {
			x := st
			x.Shelves[1].Fates = slices.Repeat([]int{f}, 20)
			x.Shelves[3].Fates = slices.Repeat([]int{g}, 20)
			_, ring, all, r, e := Load(x, l[1:4])
			if e != api.OK || r.N != 4 || !slices.Equal(ring.Epochs, rg.Epochs) || !slices.Equal(all.All, k.All) {
				t.Fatal(f, g, e, r.N)
			}
		}
	}
	// What was lost on two shelves is posted anew.
	st.Shelves[0].Objs, st.Shelves[4].Objs = nil, nil
	after, _, _, _, e := Load(st, l[:3])
	if _, got, f := shelf.Get(after.Shelves[4], "root/00000004"); e != api.OK || f != api.OK || got == "" {
		t.Error(e, f)
	}
}

// P42.4: errors.
func TestLoadErrors(t *testing.T) {
	rg, k, l := ring(t)
	st, _ := Save(api.Store{Left: -1}, rg, k, full())
	_, _, others, _ := keys.Make(api.Key{2}, noise(2))
	check := func(st api.Store, l []api.Share, want api.Errno) {
		t.Helper()
		_, ring, all, r, e := Load(st, l)
		if e != want || ring.Epochs != nil || all.All != nil || !isZero(r) {
			t.Error(e, want)
		}
	}
	check(st, l[:2], api.ErrArg)
	check(st, others[:3], api.ErrKey)
	quiet := st
	for i := range 3 {
		quiet.Shelves[i].Fates = []int{api.Quiet}
	}
	check(quiet, l[:3], api.ErrLost)
	for left := range 11 {
		x := st
		x.Left = left
		_, _, _, r, e := Load(x, l[:3])
		if left < 8 && e != api.ErrGone || left >= 8 && (e != api.OK || r.N != 5) {
			t.Error(left, e)
		}
	}
	bent := st
	for i := range bent.Shelves {
		bent.Shelves[i].Objs = slices.Clone(st.Shelves[i].Objs)
		bent.Shelves[i].Objs[0].Name = "root/00000006"
	}
	check(bent, l[:3], api.ErrNone)
	// An elder root is told, if the last one can't be; shares of another ring are told.
	both, _ := spread.Post(st, "root/00000007", "x")
	if _, _, _, r, e := Load(both, l[:3]); e != api.OK || r.N != 5 {
		t.Error(e)
	}
	mixed, _ := Save(bent, rg, k, full())
	check(mixed, others[:3], api.ErrKey)
	late := mixed
	late.Left = 12
	check(late, others[:3], api.ErrGone)
}

// P42.1: what may just be.
func TestEdges(t *testing.T) {
	r := full()
	r.Refs = nil
	for n := range 200 {
		r.Refs = append(r.Refs, api.Ref{Machine: "m", N: 100000000 - n, At: 1000000000000, Name: name("a")})
	}
	r.Policy = api.Policy{Days: 1000, Weeks: 1000, Months: 1000, Years: 1000}
	if e := Check(r); e != api.OK {
		t.Error(e)
	}
}

// P42.2: channels' rows.
func TestChans(t *testing.T) {
	b, _ := Bytes(full())
	parts, _ := num.Texts(b)
	for i, row := range []string{num.Row("m", "1234567", strings.Repeat("k", 32)), num.Row("m", "12345678", strings.Repeat("k", 31)), num.Row("m", "12345678"), num.Row("m", "12345678", strings.Repeat("k", 32), "")} {
		parts[9] = num.Row(row)
		if r, e := Of(num.Row(parts...)); e != api.ErrForm || !isZero(r) {
			t.Error(i, e)
		}
	}
	parts[9] = num.Row(num.Row("m", "12345678", strings.Repeat("k", 32)))
	if _, e := Of(num.Row(parts...)); e != api.OK {
		t.Error(e)
	}
}

// P42.3: how many calls a save makes.
func TestCalls(t *testing.T) {
	rg, k, _ := ring(t)
	for n, calls := range map[int]int{1: 5, 2: 5, 3: 10, 4: 10} {
		r := full()
		r.N = n
		if st, e := Save(api.Store{Left: 20}, rg, k, r); e != api.OK || st.Left != 20-calls {
			t.Error(n, st.Left, e)
		}
		if st, e := Save(api.Store{Left: 3}, rg, k, r); e != api.ErrGone || st.Left != 0 {
			t.Error(n, e)
		}
	}
}
