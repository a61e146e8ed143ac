package parity

import (
	"math"
	"slices"
	"strings"
	"testing"

	"hibernacle/api"
	"hibernacle/field"
)

func text(n int) string {
	b := make([]byte, n)
	for i := range b {
		b[i] = byte(i*i*13 + i*7 + 5)
	}
	return string(b)
}

// P7.1
func TestCut(t *testing.T) {
	l := Cut("abc")
	if len(l) != 5 || l[0] != (api.Part{I: 1, Data: "a"}) || l[1].Data != "b" || l[2].Data != "c" {
		t.Error(l)
	}
	for i, p := range Cut("abcd") {
		v0, _ := field.At([]byte{1, 2, 3}, []byte("ac\x00"), byte(i+1))
		v1, _ := field.At([]byte{1, 2, 3}, []byte("bd\x00"), byte(i+1))
		if p.I != i+1 || p.Data != string([]byte{v0, v1}) {
			t.Error(i, p)
		}
	}
	for i, p := range Cut("") {
		if p != (api.Part{I: i + 1}) {
			t.Error(p)
		}
	}
}

// P7.1
func TestRows(t *testing.T) {
	for size, want := range map[int]int{-1: 0, math.MinInt: 0, 0: 0, 1: 1, 3: 1, 4: 2, math.MaxInt: math.MaxInt/3 + 1} {
		if got := Rows(size); got != want {
			t.Error(size, got)
		}
	}
}

// P7.1
func TestJoinWrong(t *testing.T) {
	p := Cut("abcdef")
	for _, c := range []struct {
		l    []api.Part
		size int
		want api.Errno
	}{
		{p, -1, api.ErrRange}, {p, 65537, api.ErrRange}, {p, math.MinInt, api.ErrRange},
		{nil, 6, api.ErrShort}, {p[:2], 6, api.ErrShort}, {[]api.Part{p[0], p[1], p[0], p[1]}, 6, api.ErrShort},
		{[]api.Part{p[0], {I: 0}, p[1]}, 6, api.ErrArg}, {[]api.Part{p[0], {I: 6, Data: "xx"}}, 6, api.ErrArg},
		{[]api.Part{{I: math.MinInt}}, 6, api.ErrArg}, {[]api.Part{p[0], {I: 2, Data: "x"}, {I: 9}}, 6, api.ErrForm},
		{p, 7, api.ErrForm}, {p, 3, api.ErrForm},
	} {
		if s, e := Join(c.l, c.size); e != c.want || s != "" {
			t.Error(c.l, c.size, e)
		}
	}
}

// P7.1: of a number that came ahead, and behind the third one, nothing is asked.
func TestJoinPassesOver(t *testing.T) {
	p := Cut("abcdef")
	for _, l := range [][]api.Part{{p[4], {I: 5, Data: "long"}, p[3], p[0]}, {p[0], p[1], p[2], {I: 77}}, {p[0], p[1], p[2], {I: 4}}} {
		if s, e := Join(l, 6); e != api.OK || s != "abcdef" {
			t.Error(l, s, e)
		}
	}
	if s, e := Join(Cut("abcdef"), 5); e != api.OK || s != "abcde" {
		t.Error("what is behind size bytes counts", s, e)
	}
}

// P7.2
func TestAnyThree(t *testing.T) {
	for _, n := range []int{0, 1, 2, 3, 4, 100, 65536} {
		p := Cut(text(n))
		for i := range 5 {
			for j := range 5 {
				for k := range 5 {
					if i == j || j == k || i == k || n > 1000 && i > 0 {
						continue
					}
					if s, e := Join([]api.Part{p[i], p[j], p[k]}, n); e != api.OK || s != text(n) {
						t.Error(n, i, j, k, e)
					}
				}
			}
		}
	}
}

// P7.3
func TestByteByByte(t *testing.T) {
	xor := func(a, b string) string {
		c := []byte(a)
		for i := range c {
			c[i] ^= b[i]
		}
		return string(c)
	}
	a, b := text(50), strings.Repeat("Q", 50)
	pa, pb := Cut(a), Cut(b)
	want := make([]api.Part, 5)
	for i := range want {
		want[i] = api.Part{I: i + 1, Data: xor(pa[i].Data, pb[i].Data)}
	}
	if !slices.Equal(Cut(xor(a, b)), want) {
		t.Error("parts of the sum")
	}
}
