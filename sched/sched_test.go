package sched

import (
	"math"
	"slices"
	"strings"
	"testing"

	"hibernacle/api"
	"hibernacle/geom"
	"hibernacle/state"
	"hibernacle/wal"
)

func machine(t *testing.T, procs ...api.Proc) api.Machine {
	t.Helper()
	v, _ := geom.Format(24, 8)
	d, _ := wal.Format(v)
	m := api.Machine{Quantum: 5, Next: 100, NewPipe: 9, Drive: d, Frames: []string{strings.Repeat("\x00", 128)}, Procs: procs}
	m.Pipes = []api.Pipe{{Id: 1}, {Id: 2, Data: "x"}, {Id: 3, Data: strings.Repeat("y", 64)}, {Id: 4, Data: strings.Repeat("y", 63)}, {Id: 5}, {Id: 6, Data: strings.Repeat("y", 64)}}
	if e := state.Check(m); e != api.OK {
		t.Fatal(e)
	}
	return m
}

func waits(pid, why int, n uint64) api.Proc {
	return api.Proc{Pid: pid, State: api.Waits, Why: why, N: n}
}

// P27.1: what each Why asks for.
func TestCould(t *testing.T) {
	ends := api.Proc{Pid: 50, State: api.Ready, Fds: [8]api.Fd{{Kind: api.FdFrom, N: 1}, {Kind: api.FdTo, N: 1}, {Kind: api.FdFrom, N: 3}, {Kind: api.FdFrom, N: 4}, {Kind: api.FdFrom, N: 5}, {Kind: api.FdTo, N: 6}}}
	child := api.Proc{Pid: 51, Parent: 7, State: api.Ready}
	other := api.Proc{Pid: 52, Parent: 7, State: api.Waits, Why: api.ForInput}
	dead := api.Proc{Pid: 53, Parent: 7, State: api.Dead}
	for i, c := range []struct {
		p      api.Proc
		others []api.Proc
		want   bool
	}{
		{waits(7, api.ForInput, 0), nil, false},
		{waits(7, api.ForBytes, 1), []api.Proc{ends}, false}, {waits(7, api.ForBytes, 2), []api.Proc{ends}, true}, {waits(7, api.ForBytes, 5), []api.Proc{ends}, true}, {waits(7, api.ForBytes, 8), []api.Proc{ends}, true}, {waits(7, api.ForBytes, math.MaxUint64), nil, true},
		{waits(7, api.ForRoom, 3), []api.Proc{ends}, false}, {waits(7, api.ForRoom, 4), []api.Proc{ends}, true}, {waits(7, api.ForRoom, 6), []api.Proc{ends}, true}, {waits(7, api.ForRoom, 8), nil, true},
		{waits(7, api.ForChild, 0), nil, true}, {waits(7, api.ForChild, 0), []api.Proc{child}, false}, {waits(7, api.ForChild, 51), []api.Proc{child}, false}, {waits(7, api.ForChild, 52), []api.Proc{child}, true}, {waits(7, api.ForChild, 0), []api.Proc{child, other, dead}, true}, {waits(7, api.ForChild, 51), []api.Proc{child, dead}, false}, {waits(7, api.ForChild, 53), []api.Proc{child, dead}, true},
		{waits(7, api.ForTime, 10), nil, true}, {waits(7, api.ForTime, 11), nil, false}, {waits(7, api.ForTime, math.MaxUint64), nil, false},
	} {
		m := machine(t, append([]api.Proc{c.p}, c.others...)...)
		m.Clock = 10
		if got := Could(m, 7); got != c.want {
			t.Error(i, got)
		}
		woken := Wake(m).Procs[0]
		want := c.p
		if c.want {
			want.State, want.Why, want.N = api.Ready, 0, 0
		}
		if woken != want {
			t.Error(i, woken)
		}
	}
	m := machine(t, waits(7, api.ForInput, 0), api.Proc{Pid: 8, State: api.Ready})
	if m.In = "x"; !Could(m, 7) || Could(m, 8) || Could(m, 9) {
		t.Error("input")
	}
	if m.In, m.End = "", true; !Could(m, 7) {
		t.Error("the end")
	}
	m.Procs[0].Why = 9
	if Could(m, 7) {
		t.Error("another Why")
	}
}

// P27.1
func TestPick(t *testing.T) {
	ready := func(pid int) api.Proc { return api.Proc{Pid: pid, State: api.Ready} }
	for i, c := range []struct {
		procs         []api.Proc
		cur, left     int
		toCur, toLeft int
	}{
		{[]api.Proc{ready(1), ready(2)}, 1, 0, 2, 5}, {[]api.Proc{ready(1), ready(2)}, 2, 0, 1, 5}, {[]api.Proc{ready(1), ready(2)}, 1, 3, 1, 3}, {[]api.Proc{ready(1)}, 1, 0, 1, 5},
		{nil, 4, 2, 4, 2}, {[]api.Proc{waits(1, api.ForInput, 0)}, 1, 3, 1, 3}, {[]api.Proc{waits(1, api.ForInput, 0), ready(9)}, 1, 3, 9, 5}, {[]api.Proc{ready(3), ready(7)}, 5, 4, 7, 5}, {[]api.Proc{ready(3)}, 0, 0, 3, 5},
	} {
		m := machine(t, c.procs...)
		m.Cur, m.Left = c.cur, c.left
		if m = Pick(m); m.Cur != c.toCur || m.Left != c.toLeft {
			t.Error(i, m.Cur, m.Left)
		}
	}
}

// P27.2
func TestEachInItsTurn(t *testing.T) {
	m := machine(t, api.Proc{Pid: 2, State: api.Ready}, waits(3, api.ForInput, 0), api.Proc{Pid: 5, State: api.Ready}, api.Proc{Pid: 9, State: api.Ready})
	for cur := range 12 {
		m.Cur = cur
		var met []int
		for range 3 {
			m.Left = 0
			m = Pick(m)
			met = append(met, m.Cur)
		}
		slices.Sort(met)
		if !slices.Equal(met, []int{2, 5, 9}) {
			t.Error(cur, met)
		}
	}
}

// P27.3
func TestNobodySleepsOn(t *testing.T) {
	m := machine(t, waits(1, api.ForTime, 3), waits(2, api.ForTime, 30), waits(3, api.ForBytes, 2), waits(4, api.ForChild, 0))
	m.Clock = 10
	once := Wake(m)
	for pid := range 6 {
		if Could(once, pid) {
			t.Error(pid)
		}
	}
	if !slices.Equal(Wake(once).Procs, once.Procs) || once.Procs[1] != m.Procs[1] || m.Procs[0].State != api.Waits || state.Check(once) != api.OK {
		t.Error("woken once more")
	}
}

// P27.1: a last step is left; whatever else, one reason is enough.
func TestEdges(t *testing.T) {
	m := machine(t, api.Proc{Pid: 1, State: api.Ready}, api.Proc{Pid: 2, State: api.Ready})
	m.Cur, m.Left = 1, 1
	if m = Pick(m); m.Cur != 1 || m.Left != 1 {
		t.Error(m.Cur, m.Left)
	}
	both := api.Proc{Pid: 50, State: api.Ready, Fds: [8]api.Fd{{Kind: api.FdFrom, N: 2}, {Kind: api.FdTo, N: 2}, {Kind: api.FdFrom, N: 3}}}
	if !Could(machine(t, waits(7, api.ForBytes, 2), both), 7) || Could(machine(t, waits(7, api.ForRoom, 3), both), 7) {
		t.Error("pipes")
	}
	child := api.Proc{Pid: 51, Parent: 7, State: api.Ready}
	if Could(machine(t, waits(7, api.ForChild, 0), child), 7) {
		t.Error("a child that lives")
	}
}
