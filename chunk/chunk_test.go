package chunk

import (
	"slices"
	"strings"
	"testing"

	"hibernacle/api"
	"hibernacle/hash"
	"hibernacle/keys"
	"hibernacle/lz"
	"hibernacle/roll"
	"hibernacle/seal"
)

var (
	one = api.Keys{All: []api.Key{{1}}}
	two = api.Keys{All: []api.Key{{1}, {2}}}
)

func text(n int) string {
	b, x := make([]byte, n), uint32(7)
	for i := range b {
		x = x*1664525 + 1013904223
		b[i] = byte(x >> 24)
	}
	return string(b)
}

// P39.1, P39.3
func TestCut(t *testing.T) {
	data := text(30000)
	want, _ := roll.Cut(data, api.Cuts{Window: 16, Min: 64, Max: 1024, Mask: 255})
	l := Cut(data)
	if !slices.Equal(l, want) || strings.Join(l, "") != data || len(l) < 30 {
		t.Error(len(l))
	}
	for i, s := range l {
		if len(s) > 1024 || len(s) < 64 && i < len(l)-1 {
			t.Error(i, len(s))
		}
	}
	if len(Cut(data[:63])) != 1 || Cut("") != nil {
		t.Error("small ones")
	}
	other := Cut("ahead" + data)
	if !slices.Equal(other[len(other)-10:], l[len(l)-10:]) {
		t.Error("ends in common")
	}
}

// P39.1: the box is laid out as the words say.
func TestSeal(t *testing.T) {
	data := "some bytes that repeat, some bytes that repeat"
	d := hash.Keyed(keys.Id(two), data)
	key, _ := keys.Box(two, 1)
	want := api.Box{Name: hash.Hex(d), Data: "\x01\x00" + seal.Seal(key, seal.Nonce(string(d[:])), hash.Hex(d), lz.Pack(data))}
	got, e := Seal(two, data)
	if e != api.OK || got != want || Name(two, data) != want.Name || Name(one, data) != want.Name {
		t.Error(e)
	}
	if n, e := Epoch(got); n != 1 || e != api.OK {
		t.Error(n, e)
	}
	if b, e := Seal(api.Keys{}, "x"); e != api.ErrArg || b != (api.Box{}) {
		t.Error(e)
	}
	if b, e := Seal(api.Keys{}, text(65537)); e != api.ErrLimit || b != (api.Box{}) {
		t.Error(e)
	}
	if _, e := Seal(one, text(65536)); e != api.OK {
		t.Error(e)
	}
}

// P39.2
func TestThereAndBack(t *testing.T) {
	for _, data := range []string{"", "x", text(1024), strings.Repeat("a", 65536)} {
		b, _ := Seal(one, data)
		for _, k := range []api.Keys{one, two} {
			if got, e := Open(k, b); e != api.OK || got != data {
				t.Error(len(data), e)
			}
		}
		again, _ := Seal(one, data)
		later, _ := Seal(two, data)
		if again != b || later == b || later.Name != b.Name {
			t.Error("one chunk, one box")
		}
		if got, e := Open(one, later); e != api.ErrArg || got != "" {
			t.Error(e)
		}
	}
}

// P39.1
func TestOpenErrors(t *testing.T) {
	b, _ := Seal(one, "data")
	key, _ := keys.Box(one, 0)
	box := func(name, packed string) api.Box {
		return api.Box{Name: name, Data: "\x00\x00" + seal.Seal(key, [12]byte{}, name, packed)}
	}
	for i, c := range []struct {
		k    api.Keys
		b    api.Box
		want api.Errno
	}{
		{one, api.Box{Name: b.Name, Data: "\x00"}, api.ErrShort}, {one, api.Box{Name: b.Name}, api.ErrShort}, {one, api.Box{Name: b.Name, Data: "\x01\x00" + b.Data[2:]}, api.ErrArg}, {api.Keys{}, b, api.ErrArg}, {one, api.Box{Name: b.Name, Data: b.Data[:45]}, api.ErrShort}, {one, api.Box{Name: "x", Data: b.Data}, api.ErrSum},
		{api.Keys{All: []api.Key{{9}}}, b, api.ErrSum}, {one, box(b.Name, "\x05"), api.ErrShort}, {one, box(b.Name, "\x80\x00\x00"), api.ErrForm}, {one, box("n", lz.Pack(strings.Repeat("z", 65537))), api.ErrLimit}, {one, box("n", lz.Pack("data")), api.ErrSum}, {one, box(b.Name, lz.Pack("datas")), api.ErrSum}, {one, box(b.Name, lz.Pack("data")), api.OK},
	} {
		got, e := Open(c.k, c.b)
		if e != c.want || e != api.OK && got != "" {
			t.Error(i, e)
		}
	}
	if n, e := Epoch(api.Box{Data: "x"}); n != 0 || e != api.ErrShort {
		t.Error(n, e)
	}
	if n, _ := Epoch(api.Box{Data: "\xff\xffx"}); n != 65535 {
		t.Error(n)
	}
}

// P39.1: chunks that are just as short, or as long, as may be.
func TestEdges(t *testing.T) {
	if l := Cut(strings.Repeat("\x00", 3000)); len(l[0]) != 1024 || len(l) != 3 {
		t.Error(len(l[0]))
	}
	found := false
	for i := range 4000 {
		data := text(4100)[i : i+100]
		if roll.Sum(data[48:64])&255 == 255 {
			found = true
			if l := Cut(data); len(l[0]) != 64 {
				t.Error(i, len(l[0]))
			}
		}
	}
	if !found {
		t.Error("no text is cut so early")
	}
}
