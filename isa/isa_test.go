package isa

import (
	"math"
	"testing"

	"hibernacle/api"
)

// P10.1
func TestEnc(t *testing.T) {
	for _, c := range []struct {
		x    api.Ins
		want uint32
	}{
		{api.Ins{Op: 1, A: 1, B: 2, C: 3}, 71876608}, {api.Ins{Op: 31, Imm: 5}, 2080374789},
		{api.Ins{Op: 14, A: 15, B: 15, Imm: -1}, 14<<26 | 0xff<<18 | 0xffff}, {api.Ins{Op: 19, A: 1, Imm: 65535}, 19<<26 | 1<<22 | 0xffff},
		{api.Ins{Op: 29, A: 2, Imm: -32768}, 29<<26 | 2<<22 | 0x8000},
	} {
		if w, e := Enc(c.x); e != api.OK || w != c.want {
			t.Error(c.x, w, e)
		}
	}
}

// P10.1
func TestEncWrong(t *testing.T) {
	for _, c := range []struct {
		x    api.Ins
		want api.Errno
	}{
		{api.Ins{}, api.ErrIll}, {api.Ins{Op: 32}, api.ErrIll}, {api.Ins{Op: 255, A: 99}, api.ErrIll},
		{api.Ins{Op: 1, A: 16}, api.ErrArg}, {api.Ins{Op: 1, C: 16}, api.ErrArg}, {api.Ins{Op: 1, Imm: 1}, api.ErrArg}, {api.Ins{Op: 14, B: 16, Imm: 99999}, api.ErrArg},
		{api.Ins{Op: 14, C: 1}, api.ErrArg}, {api.Ins{Op: 19, B: 1}, api.ErrArg}, {api.Ins{Op: 29, B: 1}, api.ErrArg}, {api.Ins{Op: 31, A: 1}, api.ErrArg},
		{api.Ins{Op: 14, Imm: 32768}, api.ErrRange}, {api.Ins{Op: 14, Imm: -32769}, api.ErrRange}, {api.Ins{Op: 15, Imm: -1}, api.ErrRange}, {api.Ins{Op: 17, Imm: 65536}, api.ErrRange},
		{api.Ins{Op: 18, Imm: 32768}, api.ErrRange}, {api.Ins{Op: 19, Imm: -1}, api.ErrRange}, {api.Ins{Op: 31, Imm: math.MaxInt32}, api.ErrRange}, {api.Ins{Op: 30, Imm: math.MinInt32}, api.ErrRange},
	} {
		if w, e := Enc(c.x); e != c.want || w != 0 {
			t.Error(c.x, w, e)
		}
	}
}

// P10.2
func TestDec(t *testing.T) {
	for _, w := range []uint32{0, 1, 32 << 26, math.MaxUint32, 1<<26 | 1, 14<<26 | 1<<16, 19<<26 | 1<<18, 31<<26 | 1<<22, 29<<26 | 1<<17} {
		if x, ok := Dec(w); ok || x != (api.Ins{}) {
			t.Error(w, x)
		}
	}
	if x, ok := Dec(2080374789); !ok || x != (api.Ins{Op: 31, Imm: 5}) {
		t.Error(x)
	}
}

// P10.3
func TestText(t *testing.T) {
	for want, x := range map[string]api.Ins{
		"add r1, r2, r3": {Op: 1, A: 1, B: 2, C: 3}, "sltu r15, r0, r10": {Op: 13, A: 15, C: 10}, "addi r1, r2, -5": {Op: 14, A: 1, B: 2, Imm: -5},
		"lui r1, 7": {Op: 19, A: 1, Imm: 7}, "lw r1, 4(r2)": {Op: 20, A: 1, B: 2, Imm: 4}, "sb r1, -4(r2)": {Op: 24, A: 1, B: 2, Imm: -4},
		"beq r1, r2, -3": {Op: 25, A: 1, B: 2, Imm: -3}, "jal r1, 12": {Op: 29, A: 1, Imm: 12}, "jalr r1, 4(r2)": {Op: 30, A: 1, B: 2, Imm: 4}, "sys 5": {Op: 31, Imm: 5},
		"": {Op: 14, Imm: 1 << 20},
	} {
		if got := Text(x); got != want {
			t.Errorf("%q, not %q", got, want)
		}
	}
	if Text(api.Ins{}) != "" || Text(api.Ins{Op: 77}) != "" {
		t.Error("what has no word has a line")
	}
}

// P10.3
func TestOp(t *testing.T) {
	all := []string{"add", "sub", "mul", "div", "rem", "and", "or", "xor", "shl", "shr", "sar", "slt", "sltu", "addi", "andi", "ori", "xori", "slti", "lui", "lw", "lb", "lbu", "sw", "sb", "beq", "bne", "blt", "bltu", "jal", "jalr", "sys"}
	for i, name := range all {
		if op, ok := Op(name); !ok || op != uint8(i+1) {
			t.Error(name, op)
		}
	}
	for _, name := range []string{"", "ADD", "add ", "li"} {
		if op, ok := Op(name); ok || op != 0 {
			t.Error(name)
		}
	}
}

// P10.4
func TestThereAndBack(t *testing.T) {
	x := uint32(1)
	count := 0
	for range 2000000 {
		x = x*1664525 + 1013904223
		w := x ^ x>>13
		i, ok := Dec(w)
		if !ok {
			continue
		}
		count++
		if back, e := Enc(i); e != api.OK || back != w || Text(i) == "" {
			t.Fatal(w, i)
		}
	}
	if count == 0 {
		t.Error("no word was an instruction's")
	}
}

// P10.1, P10.2, P10.4: each operation, at the edges of what it has.
func TestEdges(t *testing.T) {
	for op := uint8(1); op <= 31; op++ {
		least, most := int32(-32768), int32(32767)
		switch op {
		case 15, 16, 17, 19, 31:
			least, most = 0, 65535
		}
		if op <= 13 {
			least, most = 0, 0
		}
		x := api.Ins{Op: op, A: 15, B: 15, C: 15}
		if op > 13 {
			x.C = 0
		}
		if op == 19 || op == 29 || op == 31 {
			x.B = 0
		}
		if op == 31 {
			x.A = 0
		}
		for _, imm := range []int32{least, most, 0} {
			x.Imm = imm
			w, e := Enc(x)
			if back, ok := Dec(w); e != api.OK || !ok || back != x || uint8(w>>26) != op {
				t.Error(x, e, back)
			}
		}
		want := api.ErrRange
		if op <= 13 {
			want = api.ErrArg
		}
		for _, imm := range []int32{least - 1, most + 1} {
			x.Imm = imm
			if _, e := Enc(x); e != want {
				t.Error(x, e)
			}
		}
	}
}
