package roll

import (
	"math"
	"slices"
	"strings"
	"testing"

	"hibernacle/api"
)

func text(n int) string {
	b, x := make([]byte, n), uint32(7)
	for i := range b {
		x = x*1664525 + 1013904223
		b[i] = byte(x >> 24)
	}
	return string(b)
}

// P9.1
func TestCheck(t *testing.T) {
	for _, c := range []api.Cuts{{Window: 1, Min: 1, Max: 1}, {Window: 64, Min: 64, Max: 65536, Mask: math.MaxUint32}, {Window: 16, Min: 16, Max: 16}} {
		if Check(c) != api.OK {
			t.Error(c)
		}
	}
	for _, c := range []api.Cuts{{}, {Min: 1, Max: 1}, {Window: 65, Min: 65, Max: 99}, {Window: 2, Min: 1, Max: 9}, {Window: 1, Min: 3, Max: 2}, {Window: 1, Min: 1, Max: 65537}, {Window: math.MinInt, Min: 1, Max: 2}} {
		if Check(c) != api.ErrRange {
			t.Error(c)
		}
		if l, e := Cut("abc", c); e != api.ErrRange || l != nil {
			t.Error(c)
		}
	}
}

// P9.1
func TestSum(t *testing.T) {
	if Sum("ab") != 6768861 || Sum("") != 0 || Sum("\x00") != 1 {
		t.Error("sums")
	}
}

// P9.2
func TestCut(t *testing.T) {
	if l, _ := Cut("abcd", api.Cuts{Window: 1, Min: 1, Max: 3}); !slices.Equal(l, []string{"a", "b", "c", "d"}) {
		t.Error(l)
	}
	if l, e := Cut("", api.Cuts{Window: 1, Min: 1, Max: 3}); l != nil || e != api.OK {
		t.Error(l, e)
	}
	// A mask that no sum has all bits of cuts at Max alone.
	if l, _ := Cut(strings.Repeat("x", 7), api.Cuts{Window: 2, Min: 2, Max: 3, Mask: math.MaxUint32}); !slices.Equal(l, []string{"xxx", "xxx", "x"}) {
		t.Error(l)
	}
	for _, c := range []api.Cuts{{Window: 16, Min: 64, Max: 1024, Mask: 255}, {Window: 3, Min: 5, Max: 40, Mask: 7}, {Window: 1, Min: 1, Max: 9, Mask: 1}, {Window: 64, Min: 64, Max: 65, Mask: 0}} {
		data := text(5000)
		l, e := Cut(data, c)
		if e != api.OK || strings.Join(l, "") != data {
			t.Error(c)
		}
		for i, s := range l {
			for n := c.Min; n < len(s); n++ {
				if sum := Sum(s[n-c.Window : n]); sum&c.Mask == c.Mask {
					t.Error(c, i, "should have been cut", n)
				}
			}
			sum := Sum(s[max(0, len(s)-c.Window):])
			if i < len(l)-1 && len(s) != c.Max && (len(s) < c.Min || sum&c.Mask != c.Mask) {
				t.Error(c, i, "shouldn't be cut")
			}
		}
	}
}

// P9.3
func TestOwnBytes(t *testing.T) {
	c := api.Cuts{Window: 16, Min: 64, Max: 1024, Mask: 255}
	data := text(20000)
	l, _ := Cut(data, c)
	at := 0
	for i, s := range l {
		if rest, _ := Cut(data[at:], c); !slices.Equal(rest, l[i:]) {
			t.Error(i)
		}
		at += len(s)
	}
	other, _ := Cut(strings.Repeat("ahead", 100)+data[3:], c)
	if !slices.Equal(other[len(other)-5:], l[len(l)-5:]) {
		t.Error("ends in common are cut apart")
	}
}
