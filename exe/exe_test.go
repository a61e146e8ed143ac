package exe

import (
	"math"
	"slices"
	"strings"
	"testing"

	"hibernacle/api"
)

func program(words, data, room int, entry uint32) api.Exe {
	x := api.Exe{Data: strings.Repeat("d", data), Room: room, Entry: entry}
	for i := range words {
		x.Text = append(x.Text, uint32(i)*0x01020304+7)
	}
	return x
}

func same(a, b api.Exe) bool {
	return slices.Equal(a.Text, b.Text) && a.Data == b.Data && a.Room == b.Room && a.Entry == b.Entry
}

var good = []api.Exe{
	program(1, 0, 0, 0), program(448, 0, 0, 4*447), program(32, 13*128, 0, 0), program(33, 0, 12*128, 8), program(1, 1, 13*128-1, 0), program(5, 130, 0, 16),
}

var bad = []api.Exe{
	{}, program(0, 5, 0, 0), program(449, 0, 0, 0), program(448, 1, 0, 0), program(448, 0, 1, 0), program(33, 12*128, 1, 0), program(1, 0, -1, 0), program(1, 0, math.MinInt, 0),
	program(1, 1, math.MaxInt, 0), program(1, 0, math.MaxInt, 0), program(1, 0, 0, 4), program(2, 0, 0, 2), program(2, 0, 0, math.MaxUint32-3), program(1, 70000, 0, 0),
}

// P12.1
func TestCheck(t *testing.T) {
	for i, x := range good {
		if Check(x) != api.OK {
			t.Error(i)
		}
	}
	for i, x := range bad {
		if Check(x) != api.ErrArg {
			t.Error(i)
		}
		if b, e := Bytes(x); b != "" || e != api.ErrArg {
			t.Error(i)
		}
		if l, e := Lay(x); l != nil || e != api.ErrArg {
			t.Error(i)
		}
	}
}

// P12.1
func TestBytes(t *testing.T) {
	b, e := Bytes(api.Exe{Text: []uint32{0x01020304, 5}, Data: "xyz", Room: 258, Entry: 4})
	if e != api.OK || b != "hibx\x04\x00\x00\x00\x02\x00\x03\x00\x02\x01\x04\x03\x02\x01\x05\x00\x00\x00xyz" {
		t.Errorf("%q", b)
	}
	if b, _ := Bytes(good[0]); len(b) != 18 {
		t.Error(len(b))
	}
}

// P12.2
func TestThereAndBack(t *testing.T) {
	for i, x := range good {
		b, _ := Bytes(x)
		if got, e := Of(b); e != api.OK || !same(got, x) {
			t.Error(i, e)
		}
		for n := range b {
			want := api.ErrShort
			if got, e := Of(b[:n]); e != want || !same(got, api.Exe{}) {
				t.Fatal(i, n, e)
			}
		}
		if _, e := Of(b + "\x00"); e != api.ErrForm {
			t.Error(i, e)
		}
	}
}

// P12.1
func TestOfWrong(t *testing.T) {
	zeros := strings.Repeat("\x00", 10)
	for b, want := range map[string]api.Errno{
		"x": api.ErrForm, "hibz": api.ErrForm, "hix" + zeros: api.ErrForm, "": api.ErrShort, "hi": api.ErrShort,
		"hibx" + zeros: api.ErrForm, "hibx" + zeros + "x": api.ErrForm, "hibx\x04\x00\x00\x00\x01\x00\x00\x00\x00\x00abcd": api.ErrForm,
		"hibx\x00\x00\x00\x00\x01\x00\x00\x00\xff\xffabcd": api.ErrForm, "hibx\x00\x00\x00\x00\xff\xff\xff\xff\x00\x00abcd": api.ErrShort,
	} {
		if x, e := Of(b); e != want || !same(x, api.Exe{}) {
			t.Errorf("%q: %d", b, e)
		}
	}
}

// P12.3
func TestLay(t *testing.T) {
	l, e := Lay(program(33, 100, 29, 0))
	if e != api.OK || len(l) != 5 {
		t.Fatal(e, len(l))
	}
	for i, p := range l {
		at, write := []int{0, 1, 2, 3, 15}[i], i >= 2
		if p.At != at || p.Write != write || len(p.Data) != 128 {
			t.Error(i, p)
		}
	}
	zeros := strings.Repeat("\x00", 128)
	if l[2].Data != strings.Repeat("d", 100)+zeros[:28] || l[3].Data != zeros || l[4].Data != zeros || l[1].Data[4:] != zeros[4:] {
		t.Error("bytes")
	}
	if l[0].Data[4:8] != "\x0b\x03\x02\x01" {
		t.Errorf("%q", l[0].Data[4:8])
	}
	if l, _ := Lay(good[0]); len(l) != 2 || l[0].At != 0 || l[1].At != 15 {
		t.Error(l)
	}
}
