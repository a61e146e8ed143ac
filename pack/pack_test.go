package pack

import (
	"strings"
	"testing"

	"hibernacle/api"
	"hibernacle/hash"
	"hibernacle/num"
)

var three = []api.Box{{Name: "x", Data: "first"}, {Name: "a", Data: ""}, {Name: strings.Repeat("n", 100), Data: strings.Repeat("d", 1000)}}

// P40.1
func TestMake(t *testing.T) {
	if b, e := Make([]api.Box{{Name: "x"}}); e != api.OK || b != num.Row("hibp", "x", "") {
		t.Errorf("%q %d", b, e)
	}
	long := strings.Repeat("n", 101)
	for i, c := range []struct {
		l    []api.Box
		want api.Errno
	}{
		{nil, api.ErrArg}, {[]api.Box{{}}, api.ErrName}, {[]api.Box{{Name: long}}, api.ErrName}, {[]api.Box{{Name: "a"}, {Name: "b"}, {Name: "a"}, {}}, api.ErrTwice}, {[]api.Box{{Name: "a"}, {}, {Name: "a"}}, api.ErrName},
		{[]api.Box{{Name: "a", Data: strings.Repeat("x", 65536)}}, api.ErrLimit}, {[]api.Box{{Name: "a", Data: strings.Repeat("x", 65536)}, {Name: "a"}}, api.ErrTwice}, {[]api.Box{{Name: "a", Data: strings.Repeat("x", 65526)}}, api.OK}, {[]api.Box{{Name: "a", Data: strings.Repeat("x", 65527)}}, api.ErrLimit},
	} {
		if b, e := Make(c.l); e != c.want || e != api.OK && b != "" {
			t.Error(i, e, len(b))
		}
	}
}

// P40.2
func TestThereAndBack(t *testing.T) {
	b, _ := Make(three)
	l, e := Of(b)
	if e != api.OK || len(l) != 3 {
		t.Fatal(e)
	}
	for i, p := range l {
		if p.Name != three[i].Name || b[p.At:p.At+p.Len] != three[i].Data {
			t.Error(p)
		}
		if x, e := Take(b, p.Name); e != api.OK || x != three[i] {
			t.Error(e)
		}
	}
	if x, e := Take(b, "none"); e != api.ErrNone || x != (api.Box{}) {
		t.Error(e)
	}
	if Name(b) != "pack/"+hash.Hex(hash.Sum(b)) {
		t.Error(Name(b))
	}
}

// P40.1
func TestWrong(t *testing.T) {
	b, _ := Make(three)
	for i, bad := range []string{"", "x", num.Row("hibp"), num.Row("hibq", "x", ""), num.Row("hibp", "x"), num.Row("hibp", "", "y"), num.Row("hibp", "x", "", "x", ""), b[:len(b)-1], b + "\x00", num.Row("hibp", "a", strings.Repeat("x", 65530))} {
		if l, e := Of(bad); e != api.ErrForm || l != nil {
			t.Error(i, e)
		}
		if x, e := Take(bad, "x"); e != api.ErrForm || x != (api.Box{}) {
			t.Error(i, e)
		}
	}
}

// P40.3
func TestUnlike(t *testing.T) {
	seen := map[string]bool{}
	for _, l := range [][]api.Box{three, three[:2], {three[1], three[0], three[2]}, {{Name: "x", Data: "firs"}}, {{Name: "xf", Data: "irst"}}, {{Name: "x", Data: "first"}}} {
		b, _ := Make(l)
		seen[b] = true
	}
	if len(seen) != 6 {
		t.Error(len(seen))
	}
}

// P40.1: as many bytes as may be.
func TestMost(t *testing.T) {
	b, e := Make([]api.Box{{Name: "a", Data: strings.Repeat("x", 65526)}})
	if l, f := Of(b); e != api.OK || f != api.OK || len(b) != 65536 || l[0].Len != 65526 {
		t.Error(e, f, len(b))
	}
}
