package cpu

import (
	"math"
	"slices"
	"strings"
	"testing"

	"hibernacle/api"
	"hibernacle/isa"
	"hibernacle/num"
)

const big = math.MaxUint32

// place lays a word at 128 of page 1 (frame 1); page 0 is data to be written (frame 0), page 2 to be read.
func place(w uint32) ([]string, api.Space) {
	data := "\x80\x02\x03\x04\xff\xff\xff\x7f" + strings.Repeat("\x00", 120)
	var s api.Space
	s[0] = api.Pte{Is: true, Write: true, Frame: 0}
	s[1] = api.Pte{Is: true, Frame: 1}
	return []string{data, num.Put(uint64(w), 4) + data[4:]}, s
}

// run does one instruction with r1 = a, r2 = b, r3 = c, r0 = 77.
func run(t *testing.T, x api.Ins, a, b, c uint32) (api.Cpu, []string, api.Event, api.Cpu) {
	t.Helper()
	w, e := isa.Enc(x)
	if e != api.OK {
		t.Fatal(x, e)
	}
	frames, s := place(w)
	was := slices.Clone(frames)
	begin := api.Cpu{R: [16]uint32{0: 77, 1: a, 2: b, 3: c}, PC: 128}
	after, out, v := Step(begin, s, frames)
	if !slices.Equal(frames, was) {
		t.Error("memory that was handed in is another one")
	}
	return after, out, v, begin
}

// P14.1: operations whose answer goes to a register.
func TestReckon(t *testing.T) {
	for _, c := range []struct {
		op, a, b uint32
		imm      int32
		want     uint32
	}{
		{1, big, 2, 0, 1}, {2, 1, 2, 0, big}, {3, 1 << 31, 3, 0, 1 << 31}, {4, 7, 2, 0, 3}, {4, big, 2, 0, big / 2}, {4, 7, 0, 0, big}, {5, 7, 4, 0, 3}, {5, 7, 0, 0, 7},
		{6, 12, 10, 0, 8}, {7, 12, 10, 0, 14}, {8, 12, 10, 0, 6}, {9, 1, 33, 0, 2}, {10, 1 << 31, 63, 0, 1}, {11, 1 << 31, 31, 0, big}, {11, 8, 34, 0, 2},
		{12, big, 0, 0, 1}, {12, 0, big, 0, 0}, {13, big, 0, 0, 0}, {13, 0, big, 0, 1}, {12, 5, 5, 0, 0},
		{14, 5, 0, -6, big}, {15, big, 0, 65535, 65535}, {16, 1 << 20, 0, 65535, 1<<20 | 65535}, {17, big, 0, 65535, big - 65535}, {18, 5, 0, -6, 0}, {18, big, 0, 0, 1}, {18, 3, 0, 4, 1},
	} {
		x := api.Ins{Op: uint8(c.op), A: 4, B: 2, C: 3, Imm: c.imm}
		if c.op >= 14 {
			x.C = 0
		}
		after, _, v, begin := run(t, x, 0, c.a, c.b)
		begin.R[0], begin.R[4], begin.PC = 0, c.want, 132
		if after != begin || v != (api.Event{}) {
			t.Error(c, after, v)
		}
	}
	after, _, _, _ := run(t, api.Ins{Op: 19, A: 4, Imm: 65535}, 0, 0, 0)
	if after.R[4] != 65535<<16 {
		t.Error(after)
	}
	// R0 is 0, read or written.
	after, _, _, _ = run(t, api.Ins{Op: 14, A: 0, B: 0, Imm: 5}, 0, 0, 0)
	if after.R[0] != 0 {
		t.Error(after)
	}
	after, _, _, _ = run(t, api.Ins{Op: 14, A: 5, B: 0, Imm: 5}, 0, 0, 0)
	if after.R[5] != 5 {
		t.Error(after)
	}
}

// P14.1
func TestGoes(t *testing.T) {
	for _, c := range []struct {
		op   uint8
		a, b uint32
		goes bool
	}{
		{25, 1, 1, true}, {25, 1, 2, false}, {26, 1, 2, true}, {26, 1, 1, false}, {27, big, 0, true}, {27, 0, big, false}, {27, 1, 1, false}, {28, 0, big, true}, {28, big, 0, false},
	} {
		after, _, _, _ := run(t, api.Ins{Op: c.op, A: 1, B: 2, Imm: -3}, c.a, c.b, 0)
		want := uint32(132)
		if c.goes {
			want = 120
		}
		if after.PC != want || after.R[0] != 0 {
			t.Error(c, after)
		}
	}
	after, _, _, _ := run(t, api.Ins{Op: 29, A: 5, Imm: 10}, 0, 0, 0)
	if after.PC != 172 || after.R[5] != 132 {
		t.Error(after)
	}
	after, _, _, _ = run(t, api.Ins{Op: 30, A: 2, B: 2, Imm: -1}, 0, 9, 0)
	if after.PC != 8 || after.R[2] != 132 {
		t.Error(after)
	}
	after, _, _, _ = run(t, api.Ins{Op: 30, A: 0, B: 0, Imm: 3}, 0, 9, 0)
	if after.PC != 3 || after.R[0] != 0 {
		t.Error(after)
	}
}

// P14.1
func TestMemory(t *testing.T) {
	for _, c := range []struct {
		op   uint8
		b    uint32
		imm  int32
		want uint32
	}{{20, 0, 0, 0x04030280}, {20, 8, -4, 0x7fffffff}, {21, 0, 0, big - 127}, {21, 0, 7, 127}, {22, 0, 0, 128}, {22, 1, 2, 4}} {
		after, _, v, begin := run(t, api.Ins{Op: c.op, A: 1, B: 2, Imm: c.imm}, 0, c.b, 0)
		begin.R[0], begin.R[1], begin.PC = 0, c.want, 132
		if after != begin || v != (api.Event{}) {
			t.Error(c, after, v)
		}
	}
	_, out, _, _ := run(t, api.Ins{Op: 23, A: 1, B: 2, Imm: 4}, 0x44332211, 0, 0)
	if out[0][:9] != "\x80\x02\x03\x04\x11\x22\x33\x44\x00" {
		t.Errorf("%q", out[0][:9])
	}
	_, out, _, _ = run(t, api.Ins{Op: 24, A: 0, B: 2, Imm: 1}, 0, 0, 0)
	if out[0][:3] != "\x80\x00\x03" {
		t.Errorf("%q", out[0][:3])
	}
}

// P14.1: a fault turns nothing, not even R0.
func TestFaults(t *testing.T) {
	for _, c := range []struct {
		op uint8
		b  uint32
		n  uint32
	}{{20, 2, 2}, {20, 2048, 2048}, {23, 128, 128}, {24, 130, 130}, {21, 256, 256}, {22, big, big}} {
		after, out, v, begin := run(t, api.Ins{Op: c.op, A: 1, B: 2}, 5, c.b, 0)
		frames, _ := place(0)
		if after != begin || v != (api.Event{Kind: api.Fault, N: c.n}) || len(out) != 2 || out[0] != frames[0] {
			t.Error(c, after, v)
		}
	}
	frames, s := place(0)
	for pc, want := range map[uint32]api.Event{2: {Kind: api.Fault, N: 2}, 4096: {Kind: api.Fault, N: 4096}, 256: {Kind: api.Fault, N: 256}, 128: {Kind: api.Ill}, 4: {Kind: api.Ill, N: 0x7fffffff}} {
		begin := api.Cpu{R: [16]uint32{0: 9}, PC: pc}
		after, out, v := Step(begin, s, frames)
		if after != begin || v != want || !slices.Equal(out, frames) {
			t.Error(pc, after, v)
		}
	}
}

// P14.1
func TestCall(t *testing.T) {
	after, _, v, begin := run(t, api.Ins{Op: 31, Imm: 65535}, 0, 0, 0)
	begin.R[0], begin.PC = 0, 132
	if after != begin || v != (api.Event{Kind: api.Call, N: 65535}) {
		t.Error(after, v)
	}
}

// P14.2
func TestOneAtMost(t *testing.T) {
	x := uint32(5)
	for range 100000 {
		x = x*1664525 + 1013904223
		w := x ^ x>>11
		frames, s := place(w)
		begin := api.Cpu{PC: 128}
		for i := range begin.R {
			begin.R[i] = x >> i % 140
		}
		begin.R[0] = 0
		after, out, _ := Step(begin, s, frames)
		n := 0
		for i := range after.R {
			if after.R[i] != begin.R[i] {
				n++
			}
		}
		for i := range 128 {
			if out[0][i] != frames[0][i] {
				n++
			}
		}
		if n > 4 || out[1] != frames[1] {
			t.Fatal(w)
		}
		// What lies in no page of its own plays no part.
		more, rest, _ := Step(begin, s, append(slices.Clone(frames), "other"))
		if more != after || !slices.Equal(rest[:2], out) || rest[2] != "other" {
			t.Fatal(w)
		}
	}
}
