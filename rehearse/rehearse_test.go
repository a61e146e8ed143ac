package rehearse

import (
	"math"
	"slices"
	"strings"
	"testing"

	"hibernacle/api"
	"hibernacle/chunk"
	"hibernacle/image"
	"hibernacle/machine"
	"hibernacle/progs"
	"hibernacle/record"
	"hibernacle/vault"
)

func recorded(t *testing.T) (api.Machine, api.Tape) {
	t.Helper()
	v, _ := progs.Disk(120, 8, "bank")
	m, e := machine.New(api.Config{Frames: 16, Quantum: 5, Init: "/bank"}, v)
	if e != api.OK {
		t.Fatal(e)
	}
	m, _ = machine.Run(m, 150)
	_, tape, e := record.Run(m, []api.Input{{At: 3, Data: "m 1 2 3\ns\n"}, {At: 40, Data: "b 1", End: true}}, 900)
	if e != api.OK || len(tape.Outputs) != 3 {
		t.Fatal(e, tape.Outputs)
	}
	return m, tape
}

// P57.1, P57.4
func TestBeside(t *testing.T) {
	m, tape := recorded(t)
	x := image.Of(m)
	if v := Beside(x, tape); v != (api.Verdict{Kind: api.Alike, At: 900}) {
		t.Error(v)
	}
	other := tape
	other.Outputs = slices.Clone(tape.Outputs)
	other.Outputs[1].Data = "801\n"
	if v := Beside(x, other); v != (api.Verdict{Kind: api.Other, At: tape.Outputs[1].At, Why: api.ErrDiff}) {
		t.Error(v)
	}
	other = tape
	other.To[3] ^= 1
	if v := Beside(x, other); v != (api.Verdict{Kind: api.Other, At: 900, Why: api.ErrDiff}) {
		t.Error(v)
	}
	other = tape
	other.Inputs = append(slices.Clone(tape.Inputs), api.Input{At: 500, Data: "x"})
	if v := Beside(x, other); v != (api.Verdict{Kind: api.Other, At: 500, Why: api.ErrState}) {
		t.Error(v)
	}
	later, _ := machine.Run(m, 1)
	if v := Beside(image.Of(later), tape); v != (api.Verdict{Kind: api.Other, Why: api.ErrDiff}) {
		t.Error(v)
	}
	other.Steps = -1
	if v := Beside(x, other); v != (api.Verdict{Kind: api.Lost, Why: api.ErrForm}) {
		t.Error(v)
	}
	if v := Beside(api.Image{}, tape); v != (api.Verdict{Kind: api.Lost, Why: api.ErrForm}) {
		t.Error(v)
	}
}

// P57.2, P57.4, T18
func TestRun(t *testing.T) {
	m, tape := recorded(t)
	x := image.Of(m)
	v, _, _ := vault.New(api.Store{Left: -1}, api.Key{1}, strings.Repeat("n", 64), 0, api.Policy{Days: 1})
	s := api.Snap{Machine: "m", N: 1, Clock: m.Clock, Pages: len(x.Frames), Blocks: len(x.Blocks), Sum: image.Sum(x)}
	for k, text := range []string{strings.Join(x.Frames, ""), strings.Join(x.Blocks, ""), x.Rest} {
		for _, data := range chunk.Cut(text) {
			var name string
			v, name, _ = vault.Put(v, data)
			s.Chunks[k] = append(s.Chunks[k], name)
		}
	}
	v, e := vault.Commit(v, s)
	if e != api.OK {
		t.Fatal(e)
	}
	v.Store.Shelves[0].Objs, v.Store.Shelves[3].Objs = nil, nil
	for i := range v.Store.Shelves {
		v.Store.Shelves[i].Fates = []int{0, 0, 0}
	}
	after, verdict := Run(v, "m", 1, tape)
	if verdict != (api.Verdict{Kind: api.Alike, At: 900}) || len(after.Store.Shelves[0].Fates) != 0 {
		t.Error(verdict)
	}
	if _, verdict := Run(v, "m", 2, tape); verdict != (api.Verdict{Kind: api.Lost, Why: api.ErrNone}) {
		t.Error(verdict)
	}
	v.Store.Shelves[1].Objs = nil
	if _, verdict := Run(v, "m", 1, tape); verdict.Kind != api.Lost || verdict.At != 0 || verdict.Why == api.OK {
		t.Error(verdict)
	}
}

// P57.3
func TestText(t *testing.T) {
	for want, x := range map[string]api.Verdict{
		"alike 60": {Kind: api.Alike, At: 60, Why: 9}, "other at 7 why 23": {Kind: api.Other, At: 7, Why: api.ErrDiff}, "lost why 3": {Kind: api.Lost, At: 9, Why: api.ErrForm}, "alike 5": {Kind: api.Alike, At: 1<<63 + 5}, "other at 9223372036854775807 why -1": {Kind: api.Other, At: math.MaxUint64, Why: -1}, "": {Kind: 4, At: 1},
	} {
		if got := Text(x); got != want {
			t.Errorf("%q, not %q", got, want)
		}
	}
	if Text(api.Verdict{}) != "" || Text(api.Verdict{Kind: -1}) != "" {
		t.Error("others")
	}
}
