package drive

import (
	"math"
	"slices"
	"strings"
	"testing"

	"hibernacle/api"
)

func block(s string) string { return strings.Repeat(s, 128) }

func same(a, b api.Drive) bool {
	return slices.Equal(a.Blocks, b.Blocks) && slices.Equal(a.Pending, b.Pending) && a.Left == b.Left
}

func put(t *testing.T, d api.Drive, i int, s string) api.Drive {
	t.Helper()
	out, e := Put(d, i, block(s))
	if e != api.OK {
		t.Fatal(e)
	}
	return out
}

// P15.1
func TestNew(t *testing.T) {
	for _, n := range []int{-1, 257, math.MinInt, math.MaxInt} {
		if d, e := New(n); e != api.ErrRange || !same(d, api.Drive{}) {
			t.Error(n, e)
		}
	}
	for _, n := range []int{0, 1, 256} {
		d, e := New(n)
		if e != api.OK || len(d.Blocks) != n || d.Left != -1 || len(d.Pending) != 0 || n > 0 && d.Blocks[n-1] != block("\x00") {
			t.Error(n, e)
		}
	}
}

// P15.1
func TestCheck(t *testing.T) {
	ok := []string{block("a"), block("b")}
	for _, c := range []struct {
		d    api.Drive
		want api.Errno
	}{
		{api.Drive{}, api.OK}, {api.Drive{Blocks: ok, Left: -99}, api.OK}, {api.Drive{Blocks: slices.Repeat([]string{"x"}, 257)}, api.ErrLimit},
		{api.Drive{Blocks: []string{ok[0], "x"}, Pending: []api.Write{{Block: 9}}}, api.ErrForm}, {api.Drive{Blocks: ok, Pending: []api.Write{{Block: 2}}}, api.ErrRange},
		{api.Drive{Blocks: ok, Pending: []api.Write{{Block: -1, Data: "x"}}}, api.ErrRange}, {api.Drive{Blocks: ok, Pending: []api.Write{{Data: "x"}, {Block: 7}}}, api.ErrForm},
		{api.Drive{Blocks: ok, Pending: []api.Write{{Block: 1, Data: block("q")}}}, api.OK},
	} {
		if e := Check(c.d); e != c.want {
			t.Error(c.d, e)
		}
	}
}

// P15.1
func TestErrors(t *testing.T) {
	d, _ := New(2)
	d.Left = 0
	for i, want := range map[int]api.Errno{-1: api.ErrRange, 2: api.ErrRange, math.MinInt: api.ErrRange} {
		if s, e := Get(d, i); s != "" || e != want {
			t.Error(i, e)
		}
		if out, e := Put(d, i, ""); e != want || !same(out, api.Drive{}) {
			t.Error(i, e)
		}
	}
	if out, e := Put(d, 0, "x"); e != api.ErrForm || !same(out, api.Drive{}) {
		t.Error(e)
	}
	if out, e := Put(d, 0, block("x")); e != api.ErrGone || !same(out, d) {
		t.Error(e)
	}
	if out, e := Flush(d); e != api.ErrGone || !same(out, d) {
		t.Error(e)
	}
	d.Left = 2
	d = put(t, d, 1, "x")
	d, e := Flush(d)
	if e != api.OK || d.Left != 0 {
		t.Error(e, d.Left)
	}
}

// P15.2
func TestReadWhatWasWritten(t *testing.T) {
	d, _ := New(3)
	was := d
	d = put(t, d, 1, "a")
	d = put(t, d, 1, "b")
	d = put(t, d, 2, "c")
	if was.Pending != nil || was.Blocks[1] != block("\x00") {
		t.Error("what was handed in is another one")
	}
	flushed, _ := Flush(d)
	for _, x := range []api.Drive{d, flushed} {
		for i, want := range []string{"\x00", "b", "c"} {
			if s, e := Get(x, i); e != api.OK || s != block(want) {
				t.Errorf("%d: %q", i, s)
			}
		}
	}
	if len(flushed.Pending) != 0 || flushed.Left != -1 || len(d.Pending) != 3 {
		t.Error("pending")
	}
}

// P15.3
func TestCrash(t *testing.T) {
	d, _ := New(2)
	d = put(t, d, 0, "1")
	for pick, want := range map[int]string{0: block("\x00"), 1: block("1"), 2: block("1")[:64] + block("\x00")[:64], 5: block("1")[:64] + block("\x00")[:64], -1: block("1")[:64] + block("\x00")[:64], -3: block("\x00"), math.MinInt: block("1")} {
		d.Left = 7
		if out := Crash(d, []int{pick}); out.Blocks[0] != want || out.Blocks[1] != block("\x00") || out.Left != -1 || out.Pending != nil {
			t.Errorf("%d: %q", pick, out.Blocks[0])
		}
	}
	if Crash(d, nil).Blocks[0] != block("\x00") {
		t.Error("without picks")
	}
	d = put(t, d, 0, "2")
	d = put(t, d, 1, "3")
	out := Crash(d, []int{1, 2})
	if out.Blocks[0] != block("2")[:64]+block("1")[:64] || out.Blocks[1] != block("\x00") {
		t.Error("one behind the other")
	}
	sure, _ := Flush(d)
	if out := Crash(sure, []int{0, 2, 1}); !slices.Equal(out.Blocks, sure.Blocks) {
		t.Error("sure is sure")
	}
}

// P15.1: drives that may not be.
func TestMayNotBe(t *testing.T) {
	d := api.Drive{Blocks: []string{"x", ""}, Pending: []api.Write{{Block: 5}, {Block: -1, Data: "y"}, {Block: 0, Data: "z"}, {Block: 1}}, Left: 3}
	for i := range 3 {
		Crash(d, []int{i, i, i, i})
		Get(d, i)
		Put(d, i, block("q"))
	}
	Flush(d)
}

// P15.1: as many blocks as may be.
func TestMost(t *testing.T) {
	d, e := New(256)
	if e != api.OK || Check(d) != api.OK {
		t.Error(e)
	}
	d.Left = 1
	d, e = Put(d, 255, block("x"))
	if e != api.OK || d.Left != 0 {
		t.Error(e, d.Left)
	}
	d.Left = -7
	if d, e = Flush(d); e != api.OK || d.Left != -7 {
		t.Error(e, d.Left)
	}
}
