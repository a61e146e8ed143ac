package cache

import (
	"slices"
	"strings"
	"testing"

	"hibernacle/api"
	"hibernacle/drive"
	"hibernacle/geom"
	"hibernacle/state"
	"hibernacle/wal"
)

func block(s string) string { return strings.Repeat(s, 128) }

func machine(t *testing.T) api.Machine {
	t.Helper()
	v, _ := geom.Format(60, 8)
	d, _ := wal.Format(v)
	m := api.Machine{Clock: 3, Quantum: 5, Next: 9, NewPipe: 9, Init: "i", In: "in", Drive: d, Frames: []string{block("\x00")}}
	if e := state.Check(m); e != api.OK {
		t.Fatal(e)
	}
	return m
}

// turned is the machine's kernel's volume with so many blocks from 10 on turned.
func turned(m api.Machine, n int, s string) []string {
	v := View(m)
	for i := range n {
		v[10+i] = block(s)
	}
	return v
}

func keep(t *testing.T, m api.Machine, v []string) api.Machine {
	t.Helper()
	out, e := Keep(m, v)
	if e != api.OK {
		t.Fatal(e)
	}
	return out
}

// P28.1, P28.2
func TestKeep(t *testing.T) {
	m := machine(t)
	home := wal.Home(m.Drive)
	v := turned(m, 16, "x")
	k := keep(t, m, v)
	if len(k.Dirty) != 16 || !slices.Equal(View(k), v) || !slices.Equal(wal.Home(k.Drive), home) || len(m.Dirty) != 0 {
		t.Error(len(k.Dirty))
	}
	for i, w := range k.Dirty {
		if w != (api.Write{Block: 10 + i, Data: block("x")}) {
			t.Error(i, w)
		}
	}
	if k.In != "in" || k.Clock != 3 || state.Check(k) != api.OK {
		t.Error("all else")
	}
	if back := keep(t, k, home); len(back.Dirty) != 0 || !slices.Equal(View(back), home) {
		t.Error("as it is on the drive")
	}
	v = turned(m, 17, "y")
	k = keep(t, k, v)
	if len(k.Dirty) != 0 || !slices.Equal(wal.Home(k.Drive), v) || !slices.Equal(View(k), v) {
		t.Error("more than may be kept back")
	}
	if s := keep(t, m, turned(m, 32, "z")); len(s.Dirty) != 0 {
		t.Error("32")
	}
}

// P28.1
func TestErrors(t *testing.T) {
	m := keep(t, machine(t), turned(machine(t), 2, "x"))
	bad := turned(m, 33, "z")
	bad[59] = "short"
	for i, c := range []struct {
		v    []string
		want api.Errno
	}{{nil, api.ErrRange}, {bad[:59], api.ErrRange}, {bad, api.ErrForm}, {turned(m, 33, "z"), api.ErrLimit}} {
		if out, e := Keep(m, c.v); e != c.want || !slices.Equal(out.Dirty, m.Dirty) || !slices.Equal(out.Drive.Blocks, m.Drive.Blocks) {
			t.Error(i, e)
		}
	}
	m.Drive.Left = 3
	out, e := Keep(m, turned(m, 20, "z"))
	if e != api.ErrGone || len(out.Dirty) != 20 || out.Drive.Left != 0 || len(out.Drive.Pending) != 3 {
		t.Error(e, len(out.Dirty))
	}
	out, e = Sync(m)
	if e != api.ErrGone || len(out.Dirty) != 2 || out.Drive.Left != 0 {
		t.Error(e)
	}
	if View(api.Machine{}) != nil {
		t.Error("no machine")
	}
}

// P28.1
func TestSync(t *testing.T) {
	m := machine(t)
	v := turned(m, 2, "x")
	s, e := Sync(keep(t, m, v))
	if e != api.OK || len(s.Dirty) != 0 || !slices.Equal(wal.Home(s.Drive), v) {
		t.Error(e)
	}
	again, e := Sync(s)
	if e != api.OK || !slices.Equal(again.Drive.Blocks, s.Drive.Blocks) {
		t.Error(e)
	}
}

// P28.3
func TestPower(t *testing.T) {
	m := keep(t, machine(t), turned(machine(t), 3, "a"))
	m, _ = Sync(m)
	was := View(m)
	m = keep(t, m, turned(m, 6, "b"))
	will := View(m)
	x := uint32(9)
	for left := range 16 {
		for range 40 {
			m.Drive.Left = left
			out, e := Sync(m)
			var picks []int
			for range 14 {
				x = x*1664525 + 1013904223
				picks = append(picks, int(x>>16))
			}
			d, f := wal.Recover(drive.Crash(out.Drive, picks))
			v := wal.Home(d)
			if f != api.OK || !slices.Equal(v, will) && (e == api.OK || !slices.Equal(v, was)) {
				t.Fatal(left, e, f)
			}
		}
	}
	if d, _ := wal.Recover(drive.Crash(m.Drive, nil)); !slices.Equal(wal.Home(d), was) {
		t.Error("what is kept back is on the drive")
	}
}
