package lz

import (
	"math"
	"strings"
	"testing"

	"hibernacle/api"
)

// texts is bytes of several kinds: few signs, many, long repeats, repeats beyond what a copy reaches.
func texts() []string {
	x := uint32(1)
	noise := func(n int, mod uint32) string {
		b := make([]byte, n)
		for i := range b {
			x = x*69069 + 1
			b[i] = byte(x >> 16 % mod)
		}
		return string(b)
	}
	few := func(n int, mod byte) string {
		b := []byte(noise(n, 251))
		for i := range b {
			b[i] %= mod
		}
		return string(b)
	}
	l := []string{"", "a", "aaaa", "aaaaa", "abcabcabc", strings.Repeat("q", 1000), noise(500, 7), few(3000, 2), few(3000, 5)}
	l = append(l, "needle"+strings.Repeat("\x00", 65535-6)+"needle", "needle"+strings.Repeat("\x00", 65536-6)+"needle")
	return append(l, noise(129, 9), noise(128, 9), "abcd"+noise(300, 9)+"abcde"+noise(20, 9)+"abcdefg")
}

// slow is Pack, as the words say it, place by place.
func slow(s string) string {
	var out, run []byte
	flush := func() {
		for len(run) > 0 {
			n := min(len(run), 128)
			out = append(append(out, byte(n-1)), run[:n]...)
			run = run[n:]
		}
	}
	for i := 0; i < len(s); {
		size, distance := 0, 0
		for j := i - 1; j >= 0 && i-j <= 65535; j-- {
			n := 0
			for n < 131 && i+n < len(s) && s[i+n] == s[j+n] {
				n++
			}
			if n > size {
				size, distance = n, i-j
			}
		}
		if size < 4 {
			run = append(run, s[i])
			i++
			continue
		}
		flush()
		out = append(out, byte(124+size), byte(distance), byte(distance>>8))
		i += size
	}
	flush()
	return string(out)
}

// P8.1
func TestPack(t *testing.T) {
	if got := Pack("aaaaaa"); got != "\x00a\x81\x01\x00" {
		t.Errorf("%q", got)
	}
	for i, s := range texts() {
		if len(s) < 10000 && Pack(s) != slow(s) {
			t.Error(i)
		}
	}
	l := texts()
	if !strings.HasSuffix(Pack(l[9]), "\x82\xff\xff") || !strings.HasSuffix(Pack(l[10]), "\x05needle") {
		t.Error("a copy reaches 65535 bytes, and no more")
	}
}

// P8.1
func TestUnpack(t *testing.T) {
	for _, c := range []struct {
		b    string
		most int
		want string
		e    api.Errno
	}{
		{"", 0, "", api.OK}, {"", -1, "", api.ErrLimit}, {"\x00a", 1, "a", api.OK}, {"\x00a", 0, "", api.ErrLimit},
		{"\x00a\x80\x01\x00", 5, "aaaaa", api.OK}, {"\x00a\x80\x01\x00", 4, "", api.ErrLimit},
		{"\x00a\x80\x00\x00", 9, "", api.ErrForm}, {"\x00a\x80\x02\x00", 9, "", api.ErrForm}, {"\x80\x01\x00", 0, "", api.ErrForm},
		{"\x00", 9, "", api.ErrShort}, {"\x7faaa", -1, "", api.ErrShort}, {"\x00a\x80\x01", 9, "", api.ErrShort}, {"\x00a\xff", 0, "", api.ErrLimit},
		{"\x01ab\xff\x02\x00", 1000, "ab" + strings.Repeat("ab", 65) + "a", api.OK}, {"\x00a", math.MaxInt, "a", api.OK}, {"\x00a", math.MinInt, "", api.ErrLimit},
	} {
		if got, e := Unpack(c.b, c.most); got != c.want || e != c.e {
			t.Errorf("%q %d: %q %d", c.b, c.most, got, e)
		}
	}
}

// P8.2
func TestThereAndBack(t *testing.T) {
	for i, s := range texts() {
		p := Pack(s)
		if got, e := Unpack(p, len(s)); e != api.OK || got != s {
			t.Error(i, e)
		}
		if _, e := Unpack(p, len(s)-1); e != api.ErrLimit {
			t.Error(i, e)
		}
		if len(p) > len(s)+(len(s)+127)/128 {
			t.Error(i, len(p), len(s))
		}
	}
}

// P8.3
func TestOneBehindTheOther(t *testing.T) {
	l := texts()
	for i, a := range l {
		b := l[(i+3)%len(l)]
		if got, e := Unpack(Pack(a)+Pack(b), len(a)+len(b)); e != api.OK || got != a+b {
			t.Error(i, e)
		}
	}
}
