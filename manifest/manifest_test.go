package manifest

import (
	"math"
	"slices"
	"strings"
	"testing"

	"hibernacle/api"
	"hibernacle/hash"
	"hibernacle/num"
)

func name(s string) string { return hash.Hex(hash.Sum(s)) }

func snap() api.Snap {
	return api.Snap{Machine: "m-1.a", N: 7, At: 99, Clock: math.MaxUint64, Pages: 64, Blocks: 256, Chunks: [3][]string{{name("b"), name("a"), name("b")}, nil, {name("c")}}, Sum: hash.Sum("sum")}
}

func same(a, b api.Snap) bool {
	for i := range a.Chunks {
		if !slices.Equal(a.Chunks[i], b.Chunks[i]) {
			return false
		}
	}
	return a.Machine == b.Machine && a.N == b.N && a.At == b.At && a.Clock == b.Clock && a.Pages == b.Pages && a.Blocks == b.Blocks && a.Sum == b.Sum
}

// P41.1
func TestCheck(t *testing.T) {
	for i, c := range []struct {
		turn func(s *api.Snap)
		want api.Errno
	}{
		{func(s *api.Snap) {}, api.OK}, {func(s *api.Snap) { s.N, s.At, s.Pages, s.Blocks = 100000000, 1000000000000, 1, 1 }, api.OK}, {func(s *api.Snap) { s.Machine = ""; s.N = 0 }, api.ErrName}, {func(s *api.Snap) { s.Machine = strings.Repeat("a", 25) }, api.ErrName},
		{func(s *api.Snap) { s.Machine = strings.Repeat("z9", 12) }, api.OK}, {func(s *api.Snap) { s.Machine = "M" }, api.ErrName}, {func(s *api.Snap) { s.Machine = "a_b" }, api.ErrName}, {func(s *api.Snap) { s.Machine = "\xff" }, api.ErrName}, {func(s *api.Snap) { s.N = 0 }, api.ErrRange}, {func(s *api.Snap) { s.N = 100000001 }, api.ErrRange},
		{func(s *api.Snap) { s.At = -1 }, api.ErrRange}, {func(s *api.Snap) { s.At = 1000000000001 }, api.ErrRange}, {func(s *api.Snap) { s.Pages = 0 }, api.ErrRange}, {func(s *api.Snap) { s.Pages = 65 }, api.ErrRange}, {func(s *api.Snap) { s.Blocks = 0 }, api.ErrRange}, {func(s *api.Snap) { s.Blocks = 257 }, api.ErrRange},
		{func(s *api.Snap) { s.Chunks[1] = make([]string, 998) }, api.ErrLimit}, {func(s *api.Snap) { s.Chunks[1] = slices.Repeat([]string{name("x")}, 996) }, api.OK}, {func(s *api.Snap) { s.Chunks[1] = make([]string, 996) }, api.ErrForm}, {func(s *api.Snap) { s.Chunks[2] = []string{strings.ToUpper(name("x"))} }, api.ErrForm},
	} {
		s := snap()
		c.turn(&s)
		if e := Check(s); e != c.want {
			t.Error(i, e)
		}
		if b, e := Bytes(s); e != c.want || (b == "") != (e != api.OK) {
			t.Error(i, e)
		}
	}
}

// P41.2
func TestNames(t *testing.T) {
	want := []string{name("a"), name("b"), name("c")}
	slices.Sort(want)
	if l := Names(snap()); !slices.Equal(l, want) {
		t.Error(l)
	}
	if l := Names(api.Snap{Chunks: [3][]string{{"z"}, {"", "z"}, {"b"}}}); !slices.Equal(l, []string{"", "b", "z"}) {
		t.Error(l)
	}
	if Names(api.Snap{}) != nil {
		t.Error("none")
	}
}

// P41.2, P41.3
func TestBytes(t *testing.T) {
	s := snap()
	a, b, c := hash.Sum("a"), hash.Sum("b"), hash.Sum("c")
	want := num.Row("hibm", "m-1.a", "7", "99", strings.Repeat("\xff", 8), "64", "256", string(b[:])+string(a[:])+string(b[:]), "", string(c[:]), string(s.Sum[:]))
	got, e := Bytes(s)
	if e != api.OK || got != want {
		t.Errorf("%q", got)
	}
	if back, e := Of(got); e != api.OK || !same(back, s) {
		t.Error(e)
	}
	parts, _ := num.Texts(want)
	for i, x := range []string{"hibn", "M", "07", "-1", "x", "65", "257", "x", strings.Repeat("x", 33), string(c[1:]), string(c[:]) + "x"} {
		l := slices.Clone(parts)
		l[i] = x
		if back, e := Of(num.Row(l...)); e != api.ErrForm || !same(back, api.Snap{}) {
			t.Error(i, e)
		}
	}
	for bad, want := range map[string]api.Errno{"": api.ErrForm, want[:len(want)-1]: api.ErrShort, want + "\x00": api.ErrForm, "\x80\x00": api.ErrForm, num.Row(parts[:10]...): api.ErrForm} {
		if back, e := Of(bad); e != want || !same(back, api.Snap{}) {
			t.Error(e)
		}
	}
	other := snap()
	other.Chunks[0], other.Chunks[1] = other.Chunks[0][:2], other.Chunks[0][2:]
	if x, _ := Bytes(other); x == got {
		t.Error("unlike ones have the same bytes")
	}
}

// P41.1: as many names, and as small numbers, as may be.
func TestEdges(t *testing.T) {
	s := api.Snap{Machine: "m", N: 1, Pages: 1, Blocks: 1}
	if e := Check(s); e != api.OK {
		t.Error(e)
	}
	s.Chunks[0] = slices.Repeat([]string{name("x")}, 500)
	s.Chunks[2] = slices.Repeat([]string{name("y")}, 500)
	if e := Check(s); e != api.OK {
		t.Error(e)
	}
	s.Chunks[1] = []string{name("z")}
	if e := Check(s); e != api.ErrLimit {
		t.Error(e)
	}
}
