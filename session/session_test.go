package session

import (
	"math"
	"strings"
	"testing"

	"hibernacle/api"
	"hibernacle/hash"
	"hibernacle/num"
	"hibernacle/seal"
)

var begin = api.Chan{Machine: "a", N: 5, Key: api.Key{1}}

func send(t *testing.T, c api.Chan, data string) (api.Chan, string) {
	t.Helper()
	next, frame, e := Send(c, data)
	if e != api.OK {
		t.Fatal(e)
	}
	return next, frame
}

// P43.1: how frames are laid out.
func TestFrames(t *testing.T) {
	next, frame := send(t, begin, "data")
	n := "\x05\x00\x00\x00\x00\x00\x00\x00"
	key := api.Key(hash.Keyed(begin.Key, "send"))
	if frame != num.Row("a", n, seal.Seal(key, [12]byte{5}, num.Row("a", n), "data")) {
		t.Errorf("%q", frame)
	}
	if next != (api.Chan{Machine: "a", N: 6, Key: Next(begin.Key)}) || Next(begin.Key) != api.Key(hash.Keyed(begin.Key, "next")) {
		t.Error(next)
	}
	if Reply(begin.Key, 5, "yes") != seal.Seal(api.Key(hash.Keyed(begin.Key, "reply")), [12]byte{5}, n, "yes") {
		t.Error("reply")
	}
}

// P43.1
func TestSendErrors(t *testing.T) {
	last := begin
	last.N = math.MaxUint64
	long := strings.Repeat("x", 65537)
	for i, c := range []struct {
		c    api.Chan
		data string
		want api.Errno
	}{{last, long, api.ErrLimit}, {last, "", api.ErrRange}, {begin, long, api.ErrLimit}} {
		if next, frame, e := Send(c.c, c.data); e != c.want || frame != "" || next != (api.Chan{}) {
			t.Error(i, e)
		}
	}
	last.N--
	next, frame := send(t, last, long[1:])
	if got, data, e := Take(last, frame); e != api.OK || got != next || data != long[1:] {
		t.Error(e)
	}
}

// P43.1
func TestTakeErrors(t *testing.T) {
	_, frame := send(t, begin, "data")
	far := begin
	far.N = 1006
	_, beyond := send(t, far, "data")
	l, _ := num.Texts(frame)
	later := begin
	later.N = 6
	for i, c := range []struct {
		c     api.Chan
		frame string
		want  api.Errno
	}{
		{begin, frame[:len(frame)-1], api.ErrShort}, {begin, "\x80\x00", api.ErrForm}, {begin, "", api.ErrForm}, {begin, num.Row("b", l[1]), api.ErrForm}, {begin, num.Row("b", "x", l[2]), api.ErrForm}, {begin, num.Row("b", "\x00\x00\x00\x00\x00\x00\x00\x00", l[2]), api.ErrName},
		{later, frame, api.ErrOld}, {begin, beyond, api.ErrLimit}, {begin, num.Row("a", strings.Repeat("\xff", 8), l[2]), api.ErrLimit}, {api.Chan{Machine: "a", N: math.MaxUint64 - 3}, num.Row("a", strings.Repeat("\xff", 8), l[2]), api.ErrLimit},
		{begin, num.Row("a", l[1], "short"), api.ErrShort}, {begin, num.Row("a", l[1], l[2]+"x"), api.ErrSum}, {api.Chan{Machine: "a", N: 5}, frame, api.ErrSum}, {begin, num.Row("a", "\x06"+l[1][1:], l[2]), api.ErrSum},
	} {
		if next, data, e := Take(c.c, c.frame); e != c.want || data != "" || next != (api.Chan{}) {
			t.Error(i, e)
		}
	}
}

// P43.2
func TestLostOrNot(t *testing.T) {
	a, b := begin, begin
	x := uint32(1)
	lost := 0
	for i := range 300 {
		data := strings.Repeat("d", i)
		var frame string
		a, frame = send(t, a, data)
		x = x*1664525 + 1013904223
		if x>>20%3 == 0 && i < 299 {
			lost++
			continue
		}
		var got string
		var e api.Errno
		if b, got, e = Take(b, frame); e != api.OK || got != data || a != b {
			t.Fatal(i, e)
		}
		if _, _, e := Take(b, frame); e != api.ErrOld {
			t.Fatal("taken again", e)
		}
	}
	for range 1000 {
		a, _ = send(t, a, "")
	}
	a, frame := send(t, a, "at last")
	if b, got, e := Take(b, frame); e != api.OK || got != "at last" || a != b || lost == 0 {
		t.Error(e)
	}
}

// P43.3
func TestBent(t *testing.T) {
	_, frame := send(t, begin, "some data")
	for i := range frame {
		b := []byte(frame)
		b[i] ^= 4
		if _, _, e := Take(begin, string(b)); e == api.OK {
			t.Error(i)
		}
	}
	reply := Reply(begin.Key, 9, "yes")
	if got, e := Answer(begin.Key, 9, reply); e != api.OK || got != "yes" {
		t.Error(e)
	}
	for i := range reply {
		b := []byte(reply)
		b[i] ^= 4
		if got, e := Answer(begin.Key, 9, string(b)); e != api.ErrSum || got != "" {
			t.Error(i)
		}
	}
	if _, e := Answer(begin.Key, 8, reply); e != api.ErrSum {
		t.Error(e)
	}
	if _, e := Answer(api.Key{}, 9, reply); e != api.ErrSum {
		t.Error(e)
	}
	if _, e := Answer(begin.Key, 9, "x"); e != api.ErrShort {
		t.Error(e)
	}
}
