package record

import (
	"math"
	"slices"
	"strings"
	"testing"

	"hibernacle/api"
	"hibernacle/image"
	"hibernacle/machine"
	"hibernacle/num"
	"hibernacle/progs"
)

func boots(t *testing.T) api.Machine {
	t.Helper()
	v, _ := progs.Disk(120, 8, "kv")
	m, e := machine.New(api.Config{Frames: 16, Quantum: 5, Init: "/kv"}, v)
	if e != api.OK {
		t.Fatal(e)
	}
	return m
}

var inputs = []api.Input{{At: 0, Data: "p a x\n"}, {At: 7, Data: ""}, {At: 250, Data: "g a\ng b", End: true}}

func sameTape(a, b api.Tape) bool {
	return a.From == b.From && a.To == b.To && a.Steps == b.Steps && slices.Equal(a.Inputs, b.Inputs) && slices.Equal(a.Outputs, b.Outputs)
}

func recorded(t *testing.T) (api.Machine, api.Machine, api.Tape) {
	t.Helper()
	m := boots(t)
	end, tape, e := Run(m, inputs, 900)
	if e != api.OK {
		t.Fatal(e)
	}
	return m, end, tape
}

// P33.1
func TestRun(t *testing.T) {
	m, end, tape := recorded(t)
	by := m
	told := ""
	var outputs []api.Output
	for i := range uint64(900) {
		for _, in := range inputs {
			if in.At == i {
				by, _ = machine.Feed(by, in.Data, in.End)
			}
		}
		var s string
		if by, s = machine.Step(by); s != "" {
			outputs = append(outputs, api.Output{At: i, Data: s})
		}
		told += s
	}
	if told != "ok\nx\n-\n" || !machine.Same(by, end) || !slices.Equal(outputs, tape.Outputs) || tape.From != image.Sum(image.Of(m)) || tape.To != image.Sum(image.Of(end)) || tape.Steps != 900 || !slices.Equal(tape.Inputs, inputs) {
		t.Errorf("%q", told)
	}
	same, none, e := Run(m, nil, 0)
	if e != api.OK || !machine.Same(same, m) || none.From != none.To || none.Outputs != nil {
		t.Error(e)
	}
	if _, far, e := Run(end, nil, 100000); e != api.OK || far.Steps != 100000 {
		t.Error(e)
	}
}

// P33.1
func TestRunErrors(t *testing.T) {
	m := boots(t)
	for i, c := range []struct {
		m     api.Machine
		l     []api.Input
		steps int
		want  api.Errno
	}{
		{api.Machine{}, nil, -1, api.ErrRange}, {m, nil, -1, api.ErrRange}, {m, nil, 100001, api.ErrRange}, {m, nil, math.MaxInt, api.ErrRange}, {m, []api.Input{{At: 5}}, 5, api.ErrForm}, {m, []api.Input{{At: 5}, {At: 5}}, 9, api.ErrForm}, {m, []api.Input{{At: 5}, {At: 4}}, 9, api.ErrForm},
		{m, []api.Input{{At: 1, End: true}, {At: 2}}, 9, api.ErrState}, {m, []api.Input{{At: 1, Data: strings.Repeat("x", 4097)}}, 9, api.ErrLimit}, {m, []api.Input{{At: math.MaxUint64}}, 9, api.ErrForm},
	} {
		got, tape, e := Run(c.m, c.l, c.steps)
		if e != c.want || !machine.Same(got, api.Machine{}) || !sameTape(tape, api.Tape{}) {
			t.Error(i, e)
		}
	}
}

// P33.2
func TestReplay(t *testing.T) {
	m, end, tape := recorded(t)
	got, at, e := Replay(m, tape)
	if e != api.OK || at != 900 || !machine.Same(got, end) {
		t.Error(at, e)
	}
	other := tape
	other.To[0] ^= 1
	if got, at, e := Replay(m, other); e != api.ErrDiff || at != 900 || !machine.Same(got, end) {
		t.Error(at, e)
	}
	other = tape
	other.Outputs = slices.Clone(tape.Outputs)
	other.Outputs[1].Data = "y\n"
	where := tape.Outputs[1].At
	if got, at, e := Replay(m, other); e != api.ErrDiff || at != where || got.Clock != where+1 {
		t.Error(at, e)
	}
	other.Outputs = tape.Outputs[1:]
	if _, at, e := Replay(m, other); e != api.ErrDiff || at != tape.Outputs[0].At {
		t.Error(at, e)
	}
	other.Outputs = append([]api.Output{{At: 3, Data: "x"}}, tape.Outputs...)
	if _, at, e := Replay(m, other); e != api.ErrDiff || at != 3 {
		t.Error(at, e)
	}
	other = tape
	other.Inputs = append(slices.Clone(inputs), api.Input{At: 300, Data: "x"})
	if got, at, e := Replay(m, other); e != api.ErrState || at != 300 || got.Clock != 300 {
		t.Error(at, e)
	}
}

// P33.2
func TestReplayErrors(t *testing.T) {
	m, end, tape := recorded(t)
	bad := tape
	bad.Steps = 5
	for i, c := range []struct {
		m    api.Machine
		t    api.Tape
		want api.Errno
	}{{api.Machine{}, bad, api.ErrRange}, {end, bad, api.ErrForm}, {end, tape, api.ErrDiff}} {
		if got, at, e := Replay(c.m, c.t); e != c.want || at != 0 || !machine.Same(got, api.Machine{}) {
			t.Error(i, e)
		}
	}
	_ = m
}

// P33.3
func TestBytes(t *testing.T) {
	_, _, tape := recorded(t)
	b, e := Bytes(tape)
	if e != api.OK || !strings.HasPrefix(b, num.Row("hibt", string(tape.From[:]), num.Row(num.Row("0", "p a x\n", "0"), num.Row("7", "", "0"), num.Row("250", "g a\ng b", "1")), "900")) {
		t.Errorf("%q", b)
	}
	if got, e := Of(b); e != api.OK || !sameTape(got, tape) {
		t.Error(e)
	}
	for n := range b {
		if got, e := Of(b[:n]); e == api.OK || !sameTape(got, api.Tape{}) {
			t.Error(n)
		}
	}
	if _, e := Of(b[:len(b)-1]); e != api.ErrShort {
		t.Error(e)
	}
	for i, bad := range []api.Tape{
		{Steps: -1}, {Steps: 100001}, {Steps: 3, Outputs: []api.Output{{At: 1}}}, {Steps: 3, Outputs: []api.Output{{At: 3, Data: "x"}}}, {Steps: 3, Outputs: []api.Output{{At: 2, Data: "x"}, {At: 1, Data: "y"}}}, {Steps: 3, Inputs: []api.Input{{At: 3}}}, {Steps: 3, Inputs: []api.Input{{At: 1}, {At: 1}}}, {Steps: 3, Inputs: []api.Input{{At: math.MaxUint64}}},
	} {
		if b, e := Bytes(bad); b != "" || e != api.ErrForm {
			t.Error(i, e)
		}
	}
	zeros := strings.Repeat("\x00", 32)
	for i, bad := range []string{
		"", num.Row("hibu", zeros, "", "0", "", zeros), num.Row("hibt", zeros, "", "0", ""), num.Row("hibt", zeros+"x", "", "0", "", zeros), num.Row("hibt", zeros, "", "00", "", zeros), num.Row("hibt", zeros, "", "0", "", zeros[1:]), num.Row("hibt", zeros, "x", "0", "", zeros),
		num.Row("hibt", zeros, num.Row(num.Row("0", "x", "2")), "5", "", zeros), num.Row("hibt", zeros, num.Row(num.Row("-1", "x", "1")), "5", "", zeros), num.Row("hibt", zeros, num.Row(num.Row("0", "x")), "5", "", zeros), num.Row("hibt", zeros, "", "5", num.Row(num.Row("0", "")), zeros), num.Row("hibt", zeros, "", "5", num.Row(num.Row("01", "x")), zeros), num.Row("hibt", zeros, "", "5", num.Row("\x80\x00"), zeros),
	} {
		if got, e := Of(bad); e != api.ErrForm || !sameTape(got, api.Tape{}) {
			t.Error(i, e)
		}
	}
	if _, e := Of("\x80\x00"); e != api.ErrForm {
		t.Error(e)
	}
}

// P33.4
func TestOneBehindTheOther(t *testing.T) {
	m, end, tape := recorded(t)
	a, first, _ := Run(m, inputs[:2], 200)
	b, second, e := Run(a, []api.Input{{At: 50, Data: "g a\ng b", End: true}}, 700)
	if e != api.OK || !machine.Same(b, end) || first.To != second.From || first.From != tape.From || second.To != tape.To {
		t.Error(e)
	}
	outputs := slices.Clone(first.Outputs)
	for _, x := range second.Outputs {
		outputs = append(outputs, api.Output{At: x.At + 200, Data: x.Data})
	}
	if !slices.Equal(outputs, tape.Outputs) {
		t.Error(outputs)
	}
}
