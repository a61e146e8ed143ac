package freeze

import (
	"math"
	"slices"
	"testing"

	"hibernacle/api"
	"hibernacle/image"
	"hibernacle/machine"
	"hibernacle/progs"
)

func boots(t *testing.T, name string) api.Machine {
	t.Helper()
	v, _ := progs.Disk(120, 8, name)
	m, e := machine.New(api.Config{Frames: 16, Quantum: 5, Init: "/" + name}, v)
	if e != api.OK {
		t.Fatal(e)
	}
	return m
}

func same(a, b api.Image) bool {
	return a.Rest == b.Rest && slices.Equal(a.Frames, b.Frames) && slices.Equal(a.Blocks, b.Blocks)
}

// P34.1
func TestBegin(t *testing.T) {
	m := boots(t, "kv")
	m.Clock = 77
	s := Begin(m)
	if s.Clock != 77 || Left(s) != 16+153 || len(s.Frames) != 16 || len(s.Blocks) != 153 || s.Rest != image.Of(m).Rest || s.Frames[0] != (api.Kept{}) {
		t.Error(Left(s))
	}
	bad := api.Machine{Clock: 3, Frames: []string{"x", "y"}, Drive: api.Drive{Blocks: []string{"z"}}}
	if s := Begin(bad); s.Clock != 3 || len(s.Frames) != 2 || len(s.Blocks) != 1 || s.Rest != "" || Left(s) != 3 {
		t.Error(s)
	}
	if Left(api.Shot{}) != 0 {
		t.Error("nothing")
	}
}

// P34.2
func TestWent(t *testing.T) {
	was := api.Machine{Frames: []string{"a", "b", "c"}, Drive: api.Drive{Blocks: []string{"x", "y"}}}
	s := Begin(was)
	s.Frames[2] = api.Kept{Is: true, Data: "old"}
	now := api.Machine{Frames: []string{"a", "B", "C"}, Drive: api.Drive{Blocks: []string{"X"}}}
	got := Went(s, was, now)
	if !slices.Equal(got.Frames, []api.Kept{{}, {Is: true, Data: "b"}, {Is: true, Data: "old"}}) || !slices.Equal(got.Blocks, []api.Kept{{Is: true, Data: "x"}, {Is: true, Data: "y"}}) || s.Frames[1].Is {
		t.Error(got)
	}
	was.Frames = was.Frames[:1]
	if got := Went(s, was, api.Machine{}); got.Frames[1].Is || !got.Frames[0].Is {
		t.Error(got.Frames)
	}
}

// P34.3
func TestPump(t *testing.T) {
	m := api.Machine{Frames: []string{"a", "b"}, Drive: api.Drive{Blocks: []string{"x", "y"}}}
	s := Begin(m)
	for n, want := range map[int]int{-1: 4, 0: 4, math.MinInt: 4, 1: 3, 3: 1, 4: 0, math.MaxInt: 0} {
		if Left(Pump(s, m, n)) != want {
			t.Error(n)
		}
	}
	s.Frames[0] = api.Kept{Is: true, Data: "old"}
	got := Pump(s, m, 2)
	if !slices.Equal(got.Frames, []api.Kept{{Is: true, Data: "old"}, {Is: true, Data: "b"}}) || !slices.Equal(got.Blocks, []api.Kept{{Is: true, Data: "x"}, {}}) {
		t.Error(got)
	}
	m.Frames = m.Frames[:1]
	got = Pump(s, m, 1)
	if got.Frames[1].Is || !got.Blocks[0].Is {
		t.Error("a frame that m hasn't is passed over")
	}
}

// P34.4
func TestImage(t *testing.T) {
	m := boots(t, "up")
	s := Begin(m)
	if x, e := Image(s); e != api.ErrBusy || x.Frames != nil || x.Rest != "" {
		t.Error(e)
	}
	s = Pump(s, m, Left(s)-1)
	if _, e := Image(s); e != api.ErrBusy {
		t.Error(e)
	}
	if x, e := Image(Pump(s, m, 1)); e != api.OK || !same(x, image.Of(m)) {
		t.Error(e)
	}
}

// P34.5
func TestAsItWas(t *testing.T) {
	m := boots(t, "bank")
	m, _ = machine.Feed(m, "m 1 2 30\ny\nm 2 3 4\ny\ns\n", false)
	m, _ = machine.Run(m, 200)
	want := image.Of(m)
	s := Begin(m)
	x := uint32(5)
	for i := 0; Left(s) > 0; i++ {
		now, _ := machine.Step(m)
		s = Went(s, m, now)
		m = now
		x = x*1664525 + 1013904223
		if i%20 == 0 {
			left := Left(s)
			s = Pump(s, m, int(x>>16)%4)
			if Left(s) > left {
				t.Fatal("what is kept is kept once")
			}
		}
	}
	if got, e := Image(s); e != api.OK || !same(got, want) || same(got, image.Of(m)) {
		t.Error(e)
	}
}
