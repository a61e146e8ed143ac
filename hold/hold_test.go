package hold

import (
	"math"
	"slices"
	"testing"

	"hibernacle/api"
)

// root has three snapshots of m and one of k, on one day.
func root() api.Root {
	return api.Root{
		N: 7, Now: 2000, Policy: api.Policy{Days: 1}, Packs: []api.Packed{{Name: "p"}}, Chans: []api.Chan{{Machine: "m"}},
		Refs: []api.Ref{{Machine: "m", N: 1, At: 10}, {Machine: "m", N: 2, At: 20}, {Machine: "k", N: 1, At: 5}, {Machine: "m", N: 3, At: 30}, {Machine: "m", N: 1, At: 3}},
	}
}

// P50.1
func TestHeld(t *testing.T) {
	for until, want := range map[int64]bool{0: false, 99: false, 100: false, 101: true, math.MaxInt64: true} {
		if Held(api.Ref{Until: until}, 100) != want {
			t.Error(until)
		}
	}
}

// P50.1
func TestSet(t *testing.T) {
	r := root()
	got, e := Set(r, "m", 1, 2001)
	if e != api.OK || got.Refs[0].Until != 2001 || got.Refs[4].Until != 0 || r.Refs[0].Until != 0 || got.N != 7 || len(got.Refs) != 5 {
		t.Error(e)
	}
	if again, e := Set(got, "m", 1, 2001); e != api.OK || again.Refs[0].Until != 2001 {
		t.Error(e)
	}
	got, _ = Set(got, "m", 1, 5000)
	for _, c := range []struct {
		machine string
		n       int
		until   int64
		want    api.Errno
	}{{"x", 1, 0, api.ErrNone}, {"k", 2, 9999, api.ErrNone}, {"m", 1, 2000, api.ErrArg}, {"m", 1, math.MinInt64, api.ErrArg}, {"m", 1, 4999, api.ErrHeld}} {
		if out, e := Set(got, c.machine, c.n, c.until); e != c.want || out.N != 0 || out.Refs != nil {
			t.Error(c, e)
		}
	}
}

// P50.2
func TestGoneTrim(t *testing.T) {
	r := root()
	gone := []api.Ref{r.Refs[0], r.Refs[1], r.Refs[4]}
	if l := Gone(r); !slices.Equal(l, gone) {
		t.Error(l)
	}
	got := Trim(r)
	if !slices.Equal(got.Refs, []api.Ref{r.Refs[2], r.Refs[3]}) || got.N != 7 || got.Now != 2000 || len(got.Packs) != 1 || len(got.Chans) != 1 || got.Policy != r.Policy || len(r.Refs) != 5 {
		t.Error(got.Refs)
	}
	r, _ = Set(r, "m", 1, 3000)
	if l := Gone(r); !slices.Equal(l, []api.Ref{r.Refs[1], r.Refs[4]}) {
		t.Error(l)
	}
	r.Policy = api.Policy{}
	if Gone(r) != nil || len(Trim(r).Refs) != 5 {
		t.Error("a policy that may not be lets nothing go")
	}
}

// P50.3
func TestFollows(t *testing.T) {
	r := root()
	r, _ = Set(r, "m", 2, 2500)
	for now := int64(2000); now < 3000; now += 100 {
		r.Now = now
		held := slices.ContainsFunc(Gone(r), func(x api.Ref) bool { return x.N == 2 })
		if held != (now >= 2500) {
			t.Error(now)
		}
		trimmed := Trim(r)
		if Gone(trimmed) != nil || !slices.Equal(Trim(trimmed).Refs, trimmed.Refs) {
			t.Error("trimmed once more")
		}
		for _, machine := range []string{"m", "k"} {
			if !slices.ContainsFunc(trimmed.Refs, func(x api.Ref) bool { return x.Machine == machine }) {
				t.Error("none stays", machine)
			}
		}
	}
}
