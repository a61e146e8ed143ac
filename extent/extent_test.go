package extent

import (
	"math"
	"slices"
	"strings"
	"testing"

	"hibernacle/api"
	"hibernacle/geom"
	"hibernacle/inode"
)

// volume has two files, 1 and 2.
func volume(t *testing.T, blocks int) []string {
	t.Helper()
	v, e := geom.Format(blocks, 8)
	for range 2 {
		if e == api.OK {
			v, _, e = inode.New(v, api.IsFile, 1)
		}
	}
	if e != api.OK {
		t.Fatal(e)
	}
	return v
}

func write(t *testing.T, v []string, n, off int, data string) []string {
	t.Helper()
	v, e := Write(v, n, off, data)
	if e != api.OK {
		t.Fatal(n, off, len(data), e)
	}
	return v
}

func read(t *testing.T, v []string, n int) string {
	t.Helper()
	s, e := Read(v, n, 0, math.MaxInt)
	if e != api.OK {
		t.Fatal(e)
	}
	return s
}

// P19.1
func TestExample(t *testing.T) {
	v := write(t, volume(t, 40), 1, 300, "x")
	if l := Blocks(v, 1); !slices.Equal(l, []int{-1, -1, 7}) || Count(v, 1) != 1 {
		t.Error(l)
	}
	if x, _ := inode.Get(v, 1); x.Size != 301 || x.Direct != [6]int{2: 7} {
		t.Error(x)
	}
	// A block with numbers is taken first.
	v = write(t, v, 2, 6*128, "y")
	if x, _ := inode.Get(v, 2); x.Indirect != 8 || v[8][:2] != "\x09\x00" || Count(v, 2) != 2 || len(Blocks(v, 2)) != 7 {
		t.Error(x)
	}
}

// P19.1
func TestErrors(t *testing.T) {
	v := volume(t, 40)
	if _, e := Read(nil, 1, -1, -1); e != api.ErrForm {
		t.Error(e)
	}
	for _, n := range []int{0, 9, math.MinInt} {
		if s, e := Read(v, n, -1, 0); s != "" || e != api.ErrRange {
			t.Error(e)
		}
		if out, e := Write(v, n, -1, ""); out != nil || e != api.ErrRange {
			t.Error(e)
		}
		if out, e := Cut(v, n, -1); out != nil || e != api.ErrRange {
			t.Error(e)
		}
		if Blocks(v, n) != nil || Count(v, n) != 0 {
			t.Error(n)
		}
	}
	for _, c := range [][2]int{{-1, 0}, {0, -1}, {math.MinInt, 5}} {
		if s, e := Read(v, 1, c[0], c[1]); s != "" || e != api.ErrArg {
			t.Error(c, e)
		}
	}
	for off, want := range map[int]api.Errno{-1: api.ErrArg, 8960: api.ErrLimit, math.MaxInt: api.ErrLimit} {
		if out, e := Write(v, 1, off, "x"); out != nil || e != want {
			t.Error(off, e)
		}
	}
	if _, e := Write(v, 1, 8961, ""); e != api.ErrLimit {
		t.Error(e)
	}
	if out, e := Write(v, 1, 8960, ""); e != api.OK || !slices.Equal(out, v) {
		t.Error(e)
	}
	for size, want := range map[int]api.Errno{-1: api.ErrArg, 8961: api.ErrLimit} {
		if out, e := Cut(v, 1, size); out != nil || e != want {
			t.Error(size, e)
		}
	}
	if out, e := Write(v, 1, 0, strings.Repeat("x", 34*128)); out != nil || e != api.ErrFull {
		t.Error(e)
	}
	if _, e := Write(v, 1, 0, strings.Repeat("x", 32*128)); e != api.OK {
		t.Error(e)
	}
}

// P19.1: whatever the numbers are.
func TestHoles(t *testing.T) {
	v := volume(t, 40)
	v[9] = "\x0a\x00\x02\x00\xff\xff" + strings.Repeat("\x00", 122)
	v[10] = strings.Repeat("q", 128)
	v, _ = inode.Put(v, 1, api.Inode{Kind: 7, Size: 1 << 30, Direct: [6]int{6, 40, 10, 0, 65535, 39}, Indirect: 9, Extra: 8})
	if l := Blocks(v, 1); len(l) != 70 || !slices.Equal(l[:9], []int{-1, -1, 10, -1, -1, 39, 10, -1, -1}) {
		t.Error(l)
	}
	if Count(v, 1) != 5 || len(read(t, v, 1)) != 8960 {
		t.Error(Count(v, 1))
	}
	if s, _ := Read(v, 1, 255, 3); s != "\x00qq" {
		t.Errorf("%q", s)
	}
	// A size above MaxFile that is cut to MaxFile gives nothing back.
	out, _ := Cut(v, 1, 8960)
	if x, _ := inode.Get(out, 1); x.Size != 8960 || x.Indirect != 9 || x.Direct[0] != 6 {
		t.Error(x)
	}
	// Cut, numbers go that are no block's, too.
	out, _ = Cut(v, 1, 7*128)
	if x, _ := inode.Get(out, 1); x.Indirect != 9 || out[9] != "\x0a"+strings.Repeat("\x00", 127) || x.Direct[1] != 40 {
		t.Errorf("%q", out[9])
	}
	out, _ = Cut(v, 1, 130)
	if x, _ := inode.Get(out, 1); x != (api.Inode{Kind: 7, Size: 130, Direct: [6]int{6, 40}, Extra: 8}) {
		t.Error(x)
	}
}

// P19.1: a cut file's last block has zeros behind its end; a longer one has them, too.
func TestCut(t *testing.T) {
	v := write(t, volume(t, 60), 1, 0, strings.Repeat("x", 1000))
	room := geom.Room(v)
	a, e := Cut(v, 1, 130)
	if e != api.OK || Blocks(a, 1)[1] != 8 || a[8] != "xx"+strings.Repeat("\x00", 126) || geom.Room(a) != room+7 || Count(a, 1) != 2 {
		t.Error(e, Count(a, 1))
	}
	b, e := Cut(a, 1, 1000)
	if e != api.OK || read(t, b, 1) != strings.Repeat("x", 130)+strings.Repeat("\x00", 870) || Count(b, 1) != 2 {
		t.Error(e)
	}
	c, _ := Cut(v, 1, 128)
	if Count(c, 1) != 1 || c[7] != strings.Repeat("x", 128) {
		t.Error("a whole block")
	}
	d, _ := Cut(v, 1, 769)
	if x, _ := inode.Get(d, 1); x.Indirect == 0 || Count(d, 1) != 8 {
		t.Error(x)
	}
	d, _ = Cut(d, 1, 768)
	if x, _ := inode.Get(d, 1); x.Indirect != 0 || Count(d, 1) != 6 {
		t.Error(x)
	}
	if z, _ := Cut(v, 1, 0); geom.Room(z) != 53 {
		t.Error(geom.Room(z))
	}
}

// P19.2, P19.3
func TestReadWhatWasWritten(t *testing.T) {
	v := volume(t, 100)
	begin := geom.Room(v)
	var is [3]string
	x := uint32(7)
	next := func(n int) int {
		x = x*1664525 + 1013904223
		return int(x>>8) % n
	}
	for i := range 1500 {
		n := 1 + next(2)
		was := slices.Clone(v)
		if next(3) == 0 {
			size := next(7000)
			out, e := Cut(v, n, size)
			if e != api.OK {
				t.Fatal(e)
			}
			is[n] = (is[n] + strings.Repeat("\x00", 9000))[:size]
			v = out
			if !slices.Equal(was, was) || read(t, v, n) != is[n] {
				t.Fatal(i)
			}
			continue
		}
		off, data := next(7000), strings.Repeat(string(rune('a'+next(26))), next(900))
		out, e := Write(v, n, off, data)
		if e != api.OK {
			if e != api.ErrFull || out != nil {
				t.Fatal(e)
			}
			continue
		}
		v = out
		if data != "" {
			longer := is[n] + strings.Repeat("\x00", max(0, off+len(data)-len(is[n])))
			is[n] = longer[:off] + data + longer[off+len(data):]
		}
		for m := 1; m <= 2; m++ {
			if read(t, v, m) != is[m] {
				t.Fatal(i, m)
			}
		}
		if geom.Room(v)+Count(v, 1)+Count(v, 2) != begin {
			t.Fatal("room and counts")
		}
		if part, _ := Read(v, n, off, 50); part != is[n][min(off, len(is[n])):min(off+50, len(is[n]))] {
			t.Fatal("part")
		}
	}
}

// P19.1: nothing read, and a size that stays.
func TestEdges(t *testing.T) {
	v := write(t, volume(t, 40), 1, 0, strings.Repeat("x", 1000))
	for _, off := range []int{0, 5, 128, 999, 1000, 9000} {
		if s, e := Read(v, 1, off, 0); e != api.OK || s != "" {
			t.Error(off, e)
		}
	}
	if s, e := Read(v, 1, 999, 5); e != api.OK || s != "x" {
		t.Error(s, e)
	}
	// Blocks behind a size stay, unless it becomes less.
	x, _ := inode.Get(v, 1)
	x.Size = 200
	v, _ = inode.Put(v, 1, x)
	same, e := Cut(v, 1, 200)
	if e != api.OK || !slices.Equal(same, v) || Count(v, 1) != 9 {
		t.Error(e)
	}
	if less, e := Cut(v, 1, 199); e != api.OK || Count(less, 1) != 2 {
		t.Error(e)
	}
	if w, e := Write(v, 1, 8959, "y"); e != api.OK || len(read(t, w, 1)) != 8960 {
		t.Error(e)
	}
}
