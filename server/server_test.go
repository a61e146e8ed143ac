package server

import (
	"slices"
	"strings"
	"testing"

	"hibernacle/api"
	"hibernacle/chunk"
	"hibernacle/manifest"
	"hibernacle/session"
	"hibernacle/vault"
	"hibernacle/wire"
)

func begun(t *testing.T) (api.Vault, api.Chan) {
	t.Helper()
	v, _, e := vault.New(api.Store{Left: -1}, api.Key{1}, strings.Repeat("n", 64), 50, api.Policy{Days: 1})
	c := api.Chan{Machine: "m", Key: api.Key{7}}
	if e == api.OK {
		v, e = vault.Admit(v, c)
	}
	if e == api.OK {
		v, e = vault.Admit(v, api.Chan{Machine: "other", N: 4})
	}
	if e != api.OK {
		t.Fatal(e)
	}
	return v, c
}

// says sends bytes, and tells what was answered.
func says(t *testing.T, v api.Vault, c api.Chan, data string) (api.Vault, api.Chan, api.Msg) {
	t.Helper()
	next, frame, e := session.Send(c, data)
	if e != api.OK {
		t.Fatal(e)
	}
	v, answer := Do(v, c.Machine, frame)
	b, e := session.Answer(c.Key, c.N, answer)
	m, f := wire.Get(b)
	if e != api.OK || f != api.OK {
		t.Fatal(e, f)
	}
	if v.Root.Chans[0] != next {
		t.Error("the end didn't go on")
	}
	return v, next, m
}

func bytesOf(t *testing.T, m api.Msg) string {
	t.Helper()
	b, e := wire.Put(m)
	if e != api.OK {
		t.Fatal(e)
	}
	return b
}

func snap(machine string, n int, names ...string) api.Snap {
	return api.Snap{Machine: machine, N: n, Pages: 1, Blocks: 1, Chunks: [3][]string{names}}
}

func isMsg(m api.Msg, kind int, data string, n int, why api.Errno) bool {
	return m.Kind == kind && m.Data == data && m.N == n && m.Why == why
}

// P46.1
func TestMessages(t *testing.T) {
	v, c := begun(t)
	v, c, m := says(t, v, c, bytesOf(t, api.Msg{Kind: wire.IsAsk}))
	if !isMsg(m, wire.IsAcked, "", 0, 0) {
		t.Error(m)
	}
	v, c, m = says(t, v, c, bytesOf(t, api.Msg{Kind: wire.IsPut, Data: "a"}))
	name := chunk.Name(v.Keys, "a")
	if !isMsg(m, wire.IsTold, name, 0, 0) || !vault.Has(v, name) {
		t.Error(m)
	}
	v, c, m = says(t, v, c, bytesOf(t, api.Msg{Kind: wire.IsPut, Data: strings.Repeat("x", 40000)}))
	if !isMsg(m, wire.IsFailed, "", 0, api.ErrLimit) {
		t.Error(m)
	}
	v, c, m = says(t, v, c, bytesOf(t, api.Msg{Kind: wire.IsCommit, Snap: snap("other", 1, name)}))
	if !isMsg(m, wire.IsFailed, "", 0, api.ErrArg) {
		t.Error(m)
	}
	v, c, m = says(t, v, c, bytesOf(t, api.Msg{Kind: wire.IsCommit, Snap: snap("m", 2, name)}))
	if !isMsg(m, wire.IsFailed, "", 0, api.ErrRange) {
		t.Error(m)
	}
	n := v.Root.N
	v, c, m = says(t, v, c, bytesOf(t, api.Msg{Kind: wire.IsCommit, Snap: snap("m", 1, name)}))
	if !isMsg(m, wire.IsAcked, "", 1, 0) || len(v.Root.Refs) != 1 || v.Root.N != n+1 {
		t.Error(m)
	}
	v, c, m = says(t, v, c, bytesOf(t, api.Msg{Kind: wire.IsAsk}))
	if !isMsg(m, wire.IsAcked, "", 1, 0) || v.Root.N != n+1 {
		t.Error(m)
	}
	for data, why := range map[string]api.Errno{"": api.ErrForm, "x": api.ErrForm, bytesOf(t, api.Msg{Kind: wire.IsTold, Data: "x"}): api.ErrKind, bytesOf(t, api.Msg{Kind: wire.IsAcked}): api.ErrKind, bytesOf(t, api.Msg{Kind: wire.IsFailed, Why: 3}): api.ErrKind} {
		if v, c, m = says(t, v, c, data); !isMsg(m, wire.IsFailed, "", 0, why) {
			t.Errorf("%q: %v", data, m)
		}
	}
	// Of an error the end goes on, too, and the store is as the call left it.
	v, c, _ = says(t, v, c, bytesOf(t, api.Msg{Kind: wire.IsPut, Data: "b"}))
	v.Store.Left = 3
	v, _, m = says(t, v, c, bytesOf(t, api.Msg{Kind: wire.IsCommit, Snap: snap("m", 2, name)}))
	if !isMsg(m, wire.IsFailed, "", 0, api.ErrGone) || v.Store.Left != 0 {
		t.Error(m)
	}
}

// P46.1: what isn't taken turns nothing.
func TestNotTaken(t *testing.T) {
	v, c := begun(t)
	_, frame, _ := session.Send(c, bytesOf(t, api.Msg{Kind: wire.IsPut, Data: "a"}))
	for i, x := range []struct{ machine, frame string }{{"none", frame}, {"other", frame}, {"m", ""}, {"m", frame[1:]}, {"m", frame[:len(frame)-1] + "x"}} {
		if got, answer := Do(v, x.machine, x.frame); answer != "" || len(got.Pending) != 0 || !slices.Equal(got.Root.Chans, v.Root.Chans) {
			t.Error(i)
		}
	}
	once, answer := Do(v, "m", frame)
	again, none := Do(once, "m", frame)
	if answer == "" || none != "" || len(again.Pending) != 1 || !slices.Equal(again.Root.Chans, once.Root.Chans) {
		t.Error("taken again")
	}
	// Messages that were lost are passed over; the answer is by the key of the one that came.
	for range 3 {
		c, _, _ = session.Send(c, "lost")
	}
	v, _, m := says(t, v, c, bytesOf(t, api.Msg{Kind: wire.IsAsk}))
	if !isMsg(m, wire.IsAcked, "", 0, 0) || v.Root.Chans[1].N != 4 {
		t.Error(m)
	}
}

// P46.2
func TestItsOwn(t *testing.T) {
	v, c := begun(t)
	v, c, _ = says(t, v, c, bytesOf(t, api.Msg{Kind: wire.IsPut, Data: "a"}))
	name := chunk.Name(v.Keys, "a")
	v, _ = vault.Commit(v, snap("other", 1, name))
	was := v
	for _, s := range []api.Snap{snap("m", 1, name), snap("m", 2, name), snap("other", 2, name), snap("m", 1)} {
		v, c, _ = says(t, v, c, bytesOf(t, api.Msg{Kind: wire.IsCommit, Snap: s}))
	}
	if !slices.Equal(v.Root.Refs[:1], was.Root.Refs) || len(v.Root.Refs) != 3 || v.Root.Refs[1].Machine != "m" || v.Root.Refs[2].Machine != "m" || v.Root.Now != was.Root.Now || v.Root.Policy != was.Root.Policy || v.Root.Packs[0].Name != was.Root.Packs[0].Name {
		t.Error(v.Root.Refs)
	}
	_, b, e := vault.Get(v, v.Root.Refs[2].Name)
	if s, f := manifest.Of(b); e != api.OK || f != api.OK || s.N != 2 {
		t.Error(e, f)
	}
}
