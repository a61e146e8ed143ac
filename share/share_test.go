package share

import (
	"math"
	"strings"
	"testing"

	"hibernacle/api"
	"hibernacle/field"
)

func noise() string {
	b := make([]byte, 64)
	for i := range b {
		b[i] = byte(i*37 + 11)
	}
	return string(b)
}

var secret = api.Key{1, 0, 255, 31: 7}

// P6.1
func TestSplit(t *testing.T) {
	l, e := Split(secret, 5, noise())
	if e != api.OK || len(l) != 5 {
		t.Fatal(e)
	}
	for i, s := range l {
		if s.X != byte(i+1) {
			t.Error(s.X)
		}
		for j := range 32 {
			x := s.X
			want := secret[j] ^ field.Mul(noise()[j], x) ^ field.Mul(noise()[32+j], field.Mul(x, x))
			if s.Data[j] != want {
				t.Error(i, j)
			}
		}
	}
	// The example: p of the first byte is 1.
	l, _ = Split(api.Key{1}, 3, "\x01"+strings.Repeat("\x00", 63))
	if l[0].Data[0] != 0 || l[1].Data[0] != 3 || l[2].Data[0] != 2 {
		t.Error(l)
	}
	if l, e := Split(secret, 255, noise()); e != api.OK || l[254].X != 255 {
		t.Error(e)
	}
}

// P6.1
func TestSplitWrong(t *testing.T) {
	for _, n := range []int{math.MinInt, -1, 0, 2, 256, math.MaxInt} {
		if l, e := Split(secret, n, noise()); e != api.ErrArg || l != nil {
			t.Error(n, e)
		}
	}
	for _, s := range []string{"", noise()[1:], noise() + "x"} {
		if l, e := Split(secret, 5, s); e != api.ErrArg || l != nil {
			t.Error(len(s), e)
		}
	}
}

// P6.2
func TestJoinWrong(t *testing.T) {
	l, _ := Split(secret, 5, noise())
	for _, bad := range [][]api.Share{nil, l[:2], l[:4], {l[0], l[1], l[0]}, {l[0], {X: 0}, l[1]}, {{}, {}, {}}} {
		if k, e := Join(bad); e != api.ErrArg || k != (api.Key{}) {
			t.Error(len(bad), e)
		}
	}
}

// P6.3
func TestAnyThree(t *testing.T) {
	l, _ := Split(secret, 7, noise())
	for i := range l {
		for j := range l {
			for k := range l {
				if i == j || j == k || i == k {
					continue
				}
				if got, e := Join([]api.Share{l[i], l[j], l[k]}); e != api.OK || got != secret {
					t.Error(i, j, k)
				}
			}
		}
	}
	// Two shares fit every secret: some third one makes them shares of it.
	other := api.Key{42}
	third := api.Share{X: 9}
	for i := range third.Data {
		v, _ := field.At([]byte{0, 1, 2}, []byte{other[i], l[0].Data[i], l[1].Data[i]}, 9)
		third.Data[i] = v
	}
	if got, e := Join([]api.Share{l[0], l[1], third}); e != api.OK || got != other {
		t.Error(e)
	}
}
