package wire

import (
	"math"
	"slices"
	"strings"
	"testing"

	"hibernacle/api"
	"hibernacle/hash"
	"hibernacle/manifest"
	"hibernacle/num"
)

func snap() api.Snap {
	return api.Snap{Machine: "m", N: 1, Pages: 1, Blocks: 1, Chunks: [3][]string{{hash.Hex(hash.Sum("x"))}}}
}

func same(a, b api.Msg) bool {
	x, _ := manifest.Bytes(a.Snap)
	y, _ := manifest.Bytes(b.Snap)
	return a.Kind == b.Kind && a.Data == b.Data && a.N == b.N && a.Why == b.Why && x == y
}

func good() []api.Msg {
	return []api.Msg{
		{Kind: IsPut}, {Kind: IsPut, Data: strings.Repeat("x", 65536)}, {Kind: IsTold, Data: "n"}, {Kind: IsTold, Data: strings.Repeat("n", 100)}, {Kind: IsCommit, Snap: snap()},
		{Kind: IsAcked}, {Kind: IsAcked, N: math.MaxInt}, {Kind: IsFailed, Why: 1}, {Kind: IsFailed, Why: 23}, {Kind: IsAsk}, {Kind: IsAsk, Snap: api.Snap{Chunks: [3][]string{{}, nil, {}}}},
	}
}

// P44.1
func TestCheck(t *testing.T) {
	for i, m := range good() {
		if e := Check(m); e != api.OK {
			t.Error(i, e)
		}
	}
	for i, c := range []struct {
		m    api.Msg
		want api.Errno
	}{
		{api.Msg{}, api.ErrKind}, {api.Msg{Kind: 7, Why: 99}, api.ErrKind}, {api.Msg{Kind: -1}, api.ErrKind}, {api.Msg{Kind: IsPut, N: 1, Data: strings.Repeat("x", 65537)}, api.ErrArg}, {api.Msg{Kind: IsPut, Data: strings.Repeat("x", 65537)}, api.ErrLimit}, {api.Msg{Kind: IsPut, Why: 1}, api.ErrArg},
		{api.Msg{Kind: IsTold}, api.ErrArg}, {api.Msg{Kind: IsTold, Data: strings.Repeat("x", 101)}, api.ErrArg}, {api.Msg{Kind: IsCommit}, api.ErrName}, {api.Msg{Kind: IsCommit, Data: "x"}, api.ErrArg}, {api.Msg{Kind: IsCommit, Snap: api.Snap{Machine: "m"}}, api.ErrRange}, {api.Msg{Kind: IsAcked, N: -1}, api.ErrArg}, {api.Msg{Kind: IsAcked, Data: "x"}, api.ErrArg},
		{api.Msg{Kind: IsFailed}, api.ErrArg}, {api.Msg{Kind: IsFailed, Why: 24}, api.ErrArg}, {api.Msg{Kind: IsFailed, Why: -1}, api.ErrArg}, {api.Msg{Kind: IsAsk, N: 1}, api.ErrArg}, {api.Msg{Kind: IsAsk, Snap: api.Snap{Machine: "m"}}, api.ErrArg}, {api.Msg{Kind: IsAsk, Snap: api.Snap{Clock: 1}}, api.ErrArg},
		{api.Msg{Kind: IsPut, Snap: api.Snap{Sum: api.Digest{31: 1}}}, api.ErrArg}, {api.Msg{Kind: IsPut, Snap: api.Snap{Chunks: [3][]string{nil, nil, {""}}}}, api.ErrArg}, {api.Msg{Kind: IsAcked, Snap: api.Snap{N: 1}}, api.ErrArg}, {api.Msg{Kind: IsAcked, Snap: api.Snap{At: 1}}, api.ErrArg}, {api.Msg{Kind: IsAcked, Snap: api.Snap{Blocks: 1}}, api.ErrArg}, {api.Msg{Kind: IsAcked, Snap: api.Snap{Pages: 1}}, api.ErrArg},
	} {
		if e := Check(c.m); e != c.want {
			t.Error(i, e)
		}
		if b, e := Put(c.m); e != c.want || b != "" {
			t.Error(i, e)
		}
	}
}

// P44.1, P44.2, P44.3
func TestThereAndBack(t *testing.T) {
	seen := map[string]bool{}
	for i, m := range good() {
		b, e := Put(m)
		got, f := Get(b)
		if e != api.OK || f != api.OK || !same(got, m) {
			t.Error(i, e, f)
		}
		seen[b] = true
		for n := range min(len(b), 200) {
			if got, e := Get(b[:n]); e != api.ErrForm || !same(got, api.Msg{}) {
				t.Error(i, n, e)
			}
		}
		if _, e := Get(b + "\x00"); e != api.ErrForm {
			t.Error(i, e)
		}
	}
	if len(seen) != len(good())-1 {
		t.Error(len(seen))
	}
	s, _ := manifest.Bytes(snap())
	want := []string{num.Row("1", "ab"), num.Row("2", "n"), num.Row("3", s), num.Row("4", "17"), num.Row("5", "23"), num.Row("6", "")}
	var got []string
	for _, m := range []api.Msg{{Kind: IsPut, Data: "ab"}, {Kind: IsTold, Data: "n"}, {Kind: IsCommit, Snap: snap()}, {Kind: IsAcked, N: 17}, {Kind: IsFailed, Why: 23}, {Kind: IsAsk}} {
		b, _ := Put(m)
		got = append(got, b)
	}
	if !slices.Equal(got, want) {
		t.Errorf("%q", got)
	}
}

// P44.2: no other bytes are a message's.
func TestOthers(t *testing.T) {
	s, _ := manifest.Bytes(snap())
	for i, b := range []string{
		"", num.Row("0", ""), num.Row("7", ""), num.Row("01", "x"), num.Row("x", "x"), num.Row("6", "x"), num.Row("4", "-1"), num.Row("4", "+1"), num.Row("4", ""), num.Row("5", "0"), num.Row("5", "24"), num.Row("5", "9223372036854775808"), num.Row("2", ""), num.Row("2", strings.Repeat("x", 101)),
		num.Row("1", strings.Repeat("x", 65537)), num.Row("3", ""), num.Row("3", s[1:]), num.Row("3", s+"\x00"), num.Row("6"), num.Row("6", "", ""), "\x80\x00",
	} {
		if m, e := Get(b); e != api.ErrForm || !same(m, api.Msg{}) {
			t.Error(i, e)
		}
	}
}

// P44.1: chunks count, wherever they are.
func TestChunks(t *testing.T) {
	for i := range 3 {
		for j := range 3 {
			var s api.Snap
			s.Chunks[i] = append(s.Chunks[i], "x")
			s.Chunks[j] = append(s.Chunks[j], "y")
			if e := Check(api.Msg{Kind: IsAsk, Snap: s}); e != api.ErrArg {
				t.Error(i, j, e)
			}
		}
	}
}
