package agent

import (
	"math"
	"slices"
	"strings"
	"testing"

	"hibernacle/api"
	"hibernacle/chunk"
	"hibernacle/fresh"
	"hibernacle/hash"
	"hibernacle/image"
	"hibernacle/machine"
	"hibernacle/manifest"
	"hibernacle/progs"
	"hibernacle/server"
	"hibernacle/session"
	"hibernacle/vault"
	"hibernacle/wire"
)

var end = api.Chan{Machine: "m", Key: api.Key{7}}

func boots(t *testing.T) api.Machine {
	t.Helper()
	v, _ := progs.Disk(120, 8, "bank")
	m, e := machine.New(api.Config{Frames: 16, Quantum: 5, Init: "/bank"}, v)
	if e == api.OK {
		m, e = machine.Feed(m, strings.Repeat("m 1 2 3\nm 2 1 3\ny\n", 20), false)
	}
	if e != api.OK {
		t.Fatal(e)
	}
	m, _ = machine.Run(m, 100)
	return m
}

func opened(t *testing.T) api.Vault {
	t.Helper()
	v, _, e := vault.New(api.Store{Left: -1}, api.Key{1}, strings.Repeat("n", 64), 50, api.Policy{Days: 1})
	if e == api.OK {
		v, e = vault.Admit(v, end)
	}
	if e != api.OK {
		t.Fatal(e)
	}
	return v
}

func start(t *testing.T, a api.Agent, m api.Machine) api.Agent {
	t.Helper()
	a, e := Start(a, m, 3)
	if e != api.OK {
		t.Fatal(e)
	}
	return a
}

// answers is the frame that answers the agent's last message so.
func answers(t *testing.T, a api.Agent, m api.Msg) string {
	t.Helper()
	b, e := wire.Put(m)
	if e != api.OK {
		t.Fatal(e)
	}
	return session.Reply(a.Asked.Key, a.Asked.N, b)
}

// says is the message that an agent sends.
func says(t *testing.T, a api.Agent) (api.Agent, api.Msg) {
	t.Helper()
	next, frame, ok := Send(a)
	_, b, e := session.Take(a.Chan, frame)
	m, f := wire.Get(b)
	if !ok || e != api.OK || f != api.OK {
		t.Fatal(ok, e, f)
	}
	if next.Asked != a.Chan || next.Chan.N != a.Chan.N+1 {
		t.Error(next.Asked)
	}
	return next, m
}

// restored is the image of a vault's snapshot.
func restored(t *testing.T, v api.Vault, i int) api.Image {
	t.Helper()
	_, b, e := vault.Get(v, v.Root.Refs[i].Name)
	s, f := manifest.Of(b)
	if e != api.OK || f != api.OK {
		t.Fatal(e, f)
	}
	var texts [3]string
	for k, l := range s.Chunks {
		for _, name := range l {
			_, data, e := vault.Get(v, name)
			if e != api.OK {
				t.Fatal(e)
			}
			texts[k] += data
		}
	}
	x := api.Image{Rest: texts[2]}
	for i := 0; i < len(texts[0]); i += 128 {
		x.Frames = append(x.Frames, texts[0][i:i+128])
	}
	for i := 0; i < len(texts[1]); i += 128 {
		x.Blocks = append(x.Blocks, texts[1][i:i+128])
	}
	if s.Sum != image.Sum(x) {
		t.Error("the digest")
	}
	return x
}

// P47.1
func TestIdle(t *testing.T) {
	a := New(end, 4)
	if a.Chan != end || a.Acked != 4 || a.Stage != 0 {
		t.Error(a)
	}
	if _, frame, ok := Send(a); ok || frame != "" {
		t.Error("it sends")
	}
	for _, frame := range []string{"", "x", session.Reply(end.Key, 0, "x")} {
		if got, e := Take(a, frame); e != api.ErrState || got.Acked != 4 {
			t.Error(e)
		}
	}
	m := boots(t)
	if got := Pump(Went(a, m, m), m, 99); got.Stage != 0 || got.Shot.Frames != nil {
		t.Error(got.Stage)
	}
}

// P47.1
func TestStart(t *testing.T) {
	m := boots(t)
	a := start(t, New(end, 4), m)
	if a.Stage != 1 || a.At != 3 || len(a.Shot.Frames) != 16 || a.Snap.N != 5 || a.Snap.Machine != "m" || a.Snap.Clock != m.Clock || a.Snap.Pages != 16 || a.Snap.Blocks != 153 || a.Snap.At != 3 {
		t.Error(a.Snap)
	}
	for i, c := range []struct {
		a    api.Agent
		m    api.Machine
		at   int64
		want api.Errno
	}{{a, api.Machine{}, -1, api.ErrState}, {New(end, 0), api.Machine{}, -1, api.ErrRange}, {New(end, 0), m, -1, api.ErrRange}, {New(api.Chan{Machine: "M"}, 0), m, -1, api.ErrName}, {New(end, 100000000), m, 0, api.ErrRange}, {New(end, math.MaxInt), m, 0, api.ErrRange}} {
		if got, e := Start(c.a, c.m, c.at); e != c.want || got.Stage != 0 || got.Chan != (api.Chan{}) {
			t.Error(i, e)
		}
	}
	if f := Forget(a); f.Stage != 0 || f.Acked != 4 || f.Chan != end || f.Shot.Frames != nil || f.Snap.N != 0 {
		t.Error(f)
	}
}

// P47.1: chunks are those of the image, and go one by one.
func TestStages(t *testing.T) {
	m := boots(t)
	x := image.Of(m)
	a := Pump(start(t, New(end, 0), m), m, 168)
	if a.Stage != 1 {
		t.Error(a.Stage)
	}
	if _, _, ok := Send(a); ok {
		t.Error("it sends too early")
	}
	a = Pump(a, m, 1)
	want := [3][]string{chunk.Cut(strings.Join(x.Frames, "")), chunk.Cut(strings.Join(x.Blocks, "")), chunk.Cut(x.Rest)}
	if a.Stage != 2 || a.Snap.Sum != image.Sum(x) || !slices.Equal(a.Todo[0], want[0]) || !slices.Equal(a.Todo[1], want[1]) || !slices.Equal(a.Todo[2], want[2]) {
		t.Error(a.Stage)
	}
	seen := map[string]bool{}
	for a.Stage == 2 {
		var msg api.Msg
		a, msg = says(t, a)
		if msg.Kind != wire.IsPut || seen[msg.Data] {
			t.Fatal("a chunk that is known is sent again")
		}
		seen[msg.Data] = true
		a, _ = Take(a, answers(t, a, api.Msg{Kind: wire.IsTold, Data: hash.Hex(hash.Sum(msg.Data))}))
	}
	for k := range want {
		var names []string
		for _, data := range want[k] {
			names = append(names, hash.Hex(hash.Sum(data)))
		}
		if !slices.Equal(a.Snap.Chunks[k], names) {
			t.Error(k)
		}
	}
	if a.Stage != 3 || len(a.Known) != len(seen) {
		t.Error(a.Stage)
	}
	// Started anew, what is known isn't sent.
	b, msg := says(t, a)
	if msg.Kind != wire.IsCommit || msg.Snap.N != 1 || msg.Snap.Sum != image.Sum(x) {
		t.Error(msg)
	}
	b, e := Take(b, answers(t, b, api.Msg{Kind: wire.IsAcked, N: 1}))
	if e != api.OK || b.Stage != 0 || b.Acked != 1 || b.At != 0 || b.Shot.Frames != nil || b.Snap.N != 0 || b.Snap.Chunks[0] != nil || len(b.Known) != len(seen) {
		t.Error(e, b.Stage)
	}
	if b = Pump(start(t, b, m), m, 999); b.Stage != 3 || b.Snap.N != 2 || len(b.Snap.Chunks[1]) != len(want[1]) {
		t.Error(b.Stage)
	}
}

// atCommit is an agent that commits, and was just asked something.
func atCommit(t *testing.T) api.Agent {
	t.Helper()
	m := boots(t)
	a := Pump(start(t, New(end, 0), m), m, 999)
	for a.Stage == 2 {
		var msg api.Msg
		a, msg = says(t, a)
		a, _ = Take(a, answers(t, a, api.Msg{Kind: wire.IsTold, Data: hash.Hex(hash.Sum(msg.Data))}))
	}
	return a
}

// P47.1: answers that aren't what was hoped for.
func TestTake(t *testing.T) {
	a := atCommit(t)
	sent, _ := says(t, a)
	if got, e := Take(sent, "x"); e != api.ErrShort || got.Asked != a.Chan {
		t.Error(e)
	}
	if got, e := Take(sent, session.Reply(sent.Asked.Key, sent.Asked.N, "x")); e != api.ErrForm || got.Asked != a.Chan {
		t.Error(e)
	}
	for i, c := range []struct {
		m     api.Msg
		want  api.Errno
		stage int
	}{
		{api.Msg{Kind: wire.IsAcked, N: 2}, api.ErrDiff, 3}, {api.Msg{Kind: wire.IsAcked, N: 1}, api.OK, 0}, {api.Msg{Kind: wire.IsTold, Data: "x"}, api.ErrKind, 3}, {api.Msg{Kind: wire.IsAsk}, api.ErrKind, 3}, {api.Msg{Kind: wire.IsFailed, Why: api.ErrGone}, api.ErrGone, 3}, {api.Msg{Kind: wire.IsFailed, Why: api.ErrRange}, api.ErrRange, 4}, {api.Msg{Kind: wire.IsFailed, Why: api.ErrNone}, api.ErrNone, 2},
	} {
		got, e := Take(sent, answers(t, sent, c.m))
		if e != c.want || got.Stage != c.stage || got.Asked != (api.Chan{}) {
			t.Error(i, e, got.Stage)
		}
		if _, e := Take(got, answers(t, sent, c.m)); e != api.ErrState {
			t.Error("what is answered twice counts once", e)
		}
	}
	none, _ := Take(sent, answers(t, sent, api.Msg{Kind: wire.IsFailed, Why: api.ErrNone}))
	x := fresh.Agent(none)
	if len(x.Known) != 0 || len(x.Todo[1]) == 0 || len(x.Snap.Chunks[0]) != 0 || x.Snap.Sum != a.Snap.Sum {
		t.Error("all are sent anew")
	}
	asking, _ := Take(sent, answers(t, sent, api.Msg{Kind: wire.IsFailed, Why: api.ErrRange}))
	asking, msg := says(t, asking)
	if msg.Kind != wire.IsAsk {
		t.Error(msg)
	}
	got, e := Take(asking, answers(t, asking, api.Msg{Kind: wire.IsAcked, N: 9}))
	if e != api.OK || got.Acked != 9 || got.Snap.N != 10 || got.Stage != 3 {
		t.Error(e)
	}
	if got, e := Take(asking, answers(t, asking, api.Msg{Kind: wire.IsTold, Data: "x"})); e != api.ErrKind || got.Stage != 4 {
		t.Error(e)
	}
	early := Pump(start(t, New(end, 0), boots(t)), boots(t), 999)
	early, _ = says(t, early)
	if got, e := Take(early, answers(t, early, api.Msg{Kind: wire.IsAcked, N: 1})); e != api.ErrKind || got.Stage != 2 {
		t.Error(e)
	}
	if got, e := Take(early, answers(t, early, api.Msg{Kind: wire.IsFailed, Why: api.ErrNone})); e != api.ErrNone || got.Stage != 2 || len(got.Todo[0]) != len(early.Todo[0]) {
		t.Error(e)
	}
	for stage := range 6 {
		Send(api.Agent{Stage: stage})
		Pump(api.Agent{Stage: stage, Shot: api.Shot{Rest: "x"}}, api.Machine{}, 1)
		odd := api.Agent{Stage: stage, Asked: end}
		for _, m := range []api.Msg{{Kind: wire.IsTold, Data: "x"}, {Kind: wire.IsAcked}, {Kind: wire.IsFailed, Why: 9}} {
			Take(odd, answers(t, odd, m))
		}
	}
}

// P47.2, P47.3, T23: over a bad link, with the machine going on, and the vault begun anew.
func TestBadLink(t *testing.T) {
	v := opened(t)
	m := boots(t)
	a := New(end, 0)
	x := uint32(11)
	next := func(n int) int {
		x = x*1664525 + 1013904223
		return int(x>>12) % n
	}
	for round := range 2 {
		want := image.Of(m)
		a = start(t, a, m)
		sum := a.Snap
		for i := 0; a.Stage != 0; i++ {
			if i > 5000 {
				t.Fatal("it comes to no end")
			}
			now, _ := machine.Step(m)
			a = Pump(Went(a, m, now), now, next(4))
			m = now
			var frame string
			var ok bool
			if a, frame, ok = Send(a); !ok || next(4) == 0 {
				continue
			}
			if next(6) == 0 {
				frame = frame[:len(frame)-1] + "?"
			}
			var answer string
			for range 1 + next(2) {
				var once string
				if v, once = server.Do(v, "m", frame); once != "" {
					answer = once
				}
			}
			if next(4) > 0 {
				a, _ = Take(a, answer)
			}
			if next(150) == 0 {
				v.Pending, v.Pins = nil, nil
			}
		}
		if len(v.Root.Refs) != round+1 || a.Acked != round+1 {
			t.Fatal(len(v.Root.Refs), a.Acked)
		}
		if got := restored(t, v, round); image.Bytes(got) != image.Bytes(want) {
			t.Error("it isn't that moment", sum.Clock)
		}
	}
}
