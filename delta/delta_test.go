package delta

import (
	"slices"
	"strings"
	"testing"

	"hibernacle/api"
	"hibernacle/image"
	"hibernacle/machine"
	"hibernacle/num"
	"hibernacle/progs"
)

func img(rest string, frames, blocks []string) api.Image {
	return api.Image{Frames: frames, Blocks: blocks, Rest: rest}
}

func same(a, b api.Image) bool { return image.Bytes(a) == image.Bytes(b) }

func sameDelta(a, b api.Delta) bool {
	return a.From == b.From && a.To == b.To && a.Rest == b.Rest && slices.Equal(a.Frames, b.Frames) && slices.Equal(a.Blocks, b.Blocks)
}

var (
	a = img("a", []string{"1", "2"}, []string{"x", "y", "z"})
	b = img("b", []string{"1", "3"}, []string{"X", "y", "Z"})
	c = img("c", []string{"1", "4", "5"}, []string{"X", "y", "z"})
	d = img("d", []string{"9"}, []string{"X", "y", "z", "q"})
)

// P35.1, P35.4
func TestOf(t *testing.T) {
	want := api.Delta{From: image.Sum(a), To: image.Sum(b), Rest: "b", Frames: []api.Write{{Block: 1, Data: "3"}}, Blocks: []api.Write{{Block: 0, Data: "X"}, {Block: 2, Data: "Z"}}}
	if got := Of(a, b); !sameDelta(got, want) {
		t.Error(got)
	}
	if got := Of(a, a); got.Frames != nil || got.Blocks != nil || got.From != got.To {
		t.Error(got)
	}
	zero := image.Sum(api.Image{})
	if got := Of(c, d); got.From != zero || len(got.Frames) != 1 || len(got.Blocks) != 4 {
		t.Error(got)
	}
	if got := Of(api.Image{}, img("", []string{"p"}, nil)); !slices.Equal(got.Frames, []api.Write{{Data: "p"}}) || got.From != zero {
		t.Error(got)
	}
}

// P35.1, P35.2
func TestApply(t *testing.T) {
	for _, x := range []api.Image{a, b, c, d, {}} {
		for _, y := range []api.Image{a, b, c, d, {}} {
			z, e := Apply(x, Of(x, y))
			if e != api.OK || !same(z, y) {
				t.Error(x.Rest, y.Rest, e)
			}
		}
	}
	if x, e := Apply(b, Of(a, c)); e != api.ErrDiff || !same(x, api.Image{}) {
		t.Error(e)
	}
	if x, e := Apply(b, Of(c, d)); e != api.OK || !same(x, d) {
		t.Error("nothing of the elder one is needed", e)
	}
	for i, turn := range []func(x *api.Delta){
		func(x *api.Delta) { x.Frames[0].Block = -1 }, func(x *api.Delta) { x.Frames[0].Block = 3 }, func(x *api.Delta) { x.Blocks[0].Block = 4 }, func(x *api.Delta) { x.Rest = "?" }, func(x *api.Delta) { x.To[0] ^= 1 }, func(x *api.Delta) { x.Frames[0].Block = 2 },
	} {
		x := Of(a, b)
		turn(&x)
		want := api.ErrRange
		if i > 2 {
			want = api.ErrDiff
		}
		if y, e := Apply(a, x); e != want || !same(y, api.Image{}) {
			t.Error(i, e)
		}
	}
	grown := Of(a, c)
	if grown.Frames[1].Block != 2 || a.Frames[1] != "2" {
		t.Error("behind the last one")
	}
}

// P35.1, P35.3
func TestJoin(t *testing.T) {
	x, e := Join(Of(a, b), Of(b, c))
	if y, f := Apply(a, x); e != api.OK || f != api.OK || !same(y, c) || x.From != image.Sum(a) {
		t.Error(e, f)
	}
	if !slices.Equal(x.Frames, []api.Write{{Block: 1, Data: "4"}, {Block: 2, Data: "5"}}) || !slices.Equal(x.Blocks, []api.Write{{Block: 0, Data: "X"}, {Block: 2, Data: "z"}}) {
		t.Error(x)
	}
	if x, e = Join(Of(a, b), Of(c, d)); e != api.OK || !sameDelta(x, Of(c, d)) {
		t.Error(e)
	}
	if x, e = Join(Of(a, b), Of(a, c)); e != api.ErrDiff || !sameDelta(x, api.Delta{}) {
		t.Error(e)
	}
	twice := api.Delta{To: api.Digest{1}, Frames: []api.Write{{Block: 5, Data: "a"}, {Block: -1, Data: "b"}, {Block: 5, Data: "c"}}}
	if x, e = Join(twice, api.Delta{From: api.Digest{1}}); e != api.OK || !slices.Equal(x.Frames, []api.Write{{Block: -1, Data: "b"}, {Block: 5, Data: "c"}}) {
		t.Error(x, e)
	}
}

// P35.1, P35.2
func TestBytes(t *testing.T) {
	x := Of(a, c)
	got, e := Bytes(x)
	want := num.Row("hibd", string(x.From[:]), string(x.To[:]), "c", num.Row(num.Row("1", "4"), num.Row("2", "5")), num.Row(num.Row("0", "X")))
	if e != api.OK || got != want {
		t.Errorf("%q", got)
	}
	if y, e := Read(got); e != api.OK || !sameDelta(x, y) {
		t.Error(e)
	}
	x.Blocks[0].Block = -1
	if got, e := Bytes(x); e != api.ErrRange || got != "" {
		t.Error(e)
	}
	zeros := strings.Repeat("\x00", 32)
	for bad, want := range map[string]api.Errno{
		"": api.ErrForm, "\x05": api.ErrShort, "\x80\x00": api.ErrForm, want[:len(want)-1]: api.ErrShort, want + "\x00": api.ErrForm, num.Row("hibx", zeros, zeros, "", "", ""): api.ErrForm, num.Row("hibd", zeros+"x", zeros, "", "", ""): api.ErrForm, num.Row("hibd", zeros, zeros[1:], "", "", ""): api.ErrForm,
		num.Row("hibd", zeros, zeros, "", "\x05", ""): api.ErrForm, num.Row("hibd", zeros, zeros, "", "", num.Row("\x05")): api.ErrForm, num.Row("hibd", zeros, zeros, "", num.Row(num.Row("-1", "x")), ""): api.ErrForm, num.Row("hibd", zeros, zeros, "", num.Row(num.Row("01", "x")), ""): api.ErrForm, num.Row("hibd", zeros, zeros, "", num.Row(num.Row("1")), ""): api.ErrForm,
	} {
		if x, e := Read(bad); e != want || !sameDelta(x, api.Delta{}) {
			t.Errorf("%q: %d", bad, e)
		}
	}
}

// T4
func TestMachine(t *testing.T) {
	v, _ := progs.Disk(120, 8, "bank")
	m, _ := machine.New(api.Config{Frames: 16, Quantum: 5, Init: "/bank"}, v)
	m, _ = machine.Feed(m, "m 1 2 3\ny\nm 3 4 5\ny\ns\n", true)
	begin := image.Of(m)
	last, all, joined := begin, begin, Of(begin, begin)
	for range 10 {
		m, _ = machine.Run(m, 120)
		now := image.Of(m)
		x := Of(last, now)
		var e, f api.Errno
		all, e = Apply(all, x)
		joined, f = Join(joined, x)
		if e != api.OK || f != api.OK {
			t.Fatal(e, f)
		}
		last = now
	}
	got, e := Apply(begin, joined)
	if e != api.OK || !same(all, last) || !same(got, last) {
		t.Error(e)
	}
}
