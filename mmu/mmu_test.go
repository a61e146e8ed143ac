package mmu

import (
	"math"
	"slices"
	"strings"
	"testing"

	"hibernacle/api"
)

// memory is four frames of unlike bytes; page 0 may be read, 1 and 15 written, 2 has no frame, 3 has a short one.
func memory() ([]string, api.Space) {
	frame := func(c byte) string {
		b := make([]byte, 128)
		for i := range b {
			b[i] = c + byte(i)
		}
		return string(b)
	}
	var s api.Space
	s[0] = api.Pte{Is: true, Frame: 2}
	s[1] = api.Pte{Is: true, Write: true, Frame: 0}
	s[2] = api.Pte{Is: true, Write: true, Frame: 9}
	s[3] = api.Pte{Is: true, Write: true, Frame: 3}
	s[4] = api.Pte{Is: true, Write: true, Frame: -1}
	s[5] = api.Pte{Write: true, Frame: 1}
	s[15] = api.Pte{Is: true, Write: true, Frame: 1}
	return []string{frame(0), frame(50), frame(100), "short"}, s
}

// P13.1
func TestFind(t *testing.T) {
	_, s := memory()
	for _, c := range []struct {
		at    uint32
		size  int
		write bool
		frame int
		place int
		ok    bool
	}{
		{0, 1, false, 2, 0, true}, {5, 1, true, 0, 0, false}, {127, 1, false, 2, 127, true}, {129, 1, true, 0, 1, true}, {132, 4, true, 0, 4, true}, {130, 4, false, 0, 0, false},
		{256, 1, true, 9, 0, true}, {512, 1, false, -1, 0, true}, {640, 1, false, 0, 0, false}, {2047, 1, true, 1, 127, true}, {2048, 1, false, 0, 0, false}, {math.MaxUint32 - 3, 4, false, 0, 0, false},
		{0, 0, false, 0, 0, false}, {0, 2, false, 0, 0, false}, {0, -1, false, 0, 0, false}, {0, 8, false, 0, 0, false},
	} {
		if f, p, ok := Find(s, c.at, c.size, c.write); f != c.frame || p != c.place || ok != c.ok {
			t.Error(c, f, p, ok)
		}
	}
}

// P13.2
func TestLoadStore(t *testing.T) {
	l, s := memory()
	if v, ok := Load(l, s, 4, 4); !ok || v != 0x6b6a6968 {
		t.Errorf("%x", v)
	}
	if v, ok := Load(l, s, 128+9, 1); !ok || v != 9 {
		t.Error(v)
	}
	for _, at := range []uint32{256, 384, 512, 640, 2048} {
		if v, ok := Load(l, s, at, 1); ok || v != 0 {
			t.Error(at)
		}
		if out, ok := Store(l, s, at, 1, 0); ok || out != nil {
			t.Error(at)
		}
	}
	was := slices.Clone(l)
	out, ok := Store(l, s, 132, 4, 0x04030201)
	if !ok || !slices.Equal(l, was) || out[0] != was[0][:4]+"\x01\x02\x03\x04"+was[0][8:] || !slices.Equal(out[1:], was[1:]) {
		t.Error("store")
	}
	if out, ok := Store(l, s, 131, 1, 0x999); !ok || out[0] != was[0][:3]+"\x99"+was[0][4:] {
		t.Error("one byte")
	}
	if out, ok := Store(l, s, 0, 1, 0); ok || out != nil {
		t.Error("may not be written")
	}
}

// P13.3
func TestCopyLay(t *testing.T) {
	l, s := memory()
	if b, ok := Copy(l, s, 120, 20); !ok || b != l[2][120:]+l[0][:12] {
		t.Errorf("%q", b)
	}
	out, ok := Lay(l, s, 200, "hello")
	if !ok || out[0] != l[0][:72]+"hello"+l[0][77:] {
		t.Error("lay")
	}
	for _, c := range []struct {
		at uint32
		n  int
		ok bool
	}{
		{2048, 0, true}, {2049, 0, false}, {math.MaxUint32, 0, false}, {640, 0, true}, {2047, 1, true}, {2047, 2, false}, {250, 7, false}, {0, -1, false}, {0, math.MaxInt, false}, {0, math.MinInt, false}, {384, 1, false}, {512, 1, false},
	} {
		if b, ok := Copy(l, s, c.at, c.n); ok != c.ok || len(b) > 0 && !ok {
			t.Error(c, ok)
		}
		if c.n < 0 || c.n > 1000 {
			continue
		}
		if out, ok := Lay(l, s, c.at, strings.Repeat("x", c.n)); ok != c.ok || out != nil && !ok {
			t.Error(c, ok)
		}
	}
	if out, ok := Lay(l, s, 127, "xx"); ok || out != nil {
		t.Error("page 0 may not be written")
	}
}

// P13.4
func TestThereAndBack(t *testing.T) {
	l, s := memory()
	s[0].Write = true
	for n := range 256 {
		data := strings.Repeat("Z", n)
		out, ok := Lay(l, s, uint32(256-n), data)
		if !ok {
			t.Fatal(n)
		}
		if b, _ := Copy(out, s, uint32(256-n), n); b != data {
			t.Error(n)
		}
		rest, _ := Copy(l, s, 0, 256-n)
		if b, _ := Copy(out, s, 0, 256-n); b != rest || out[1] != l[1] || out[3] != l[3] {
			t.Error("other bytes", n)
		}
	}
	for at := uint32(128); at < 256; at += 4 {
		out, _ := Store(l, s, at, 4, 0xdeadbeef-at)
		if v, ok := Load(out, s, at, 4); !ok || v != 0xdeadbeef-at {
			t.Error(at)
		}
	}
}

// P13.2: the first frame that isn't.
func TestNoFrame(t *testing.T) {
	l, s := memory()
	s[2].Frame = len(l)
	if v, ok := Load(l, s, 256, 1); ok || v != 0 {
		t.Error(v)
	}
	if out, ok := Store(l, s, 256, 4, 1); ok || out != nil {
		t.Error("stored")
	}
	if b, ok := Copy(l, s, 256, 1); ok || b != "" {
		t.Error(b)
	}
	// All of the memory, just as it is.
	for at := range s {
		s[at] = api.Pte{Is: true, Write: true, Frame: at % 3}
	}
	all, ok := Copy(l, s, 0, 2048)
	if !ok || len(all) != 2048 {
		t.Error(len(all))
	}
	if _, ok := Copy(l, s, 1, 2048); ok {
		t.Error("beyond")
	}
	if out, ok := Lay(l, s, 2047, "x"); !ok || out[0][127] != 'x' {
		t.Error("the last byte")
	}
}
