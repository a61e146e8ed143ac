package wal

import (
	"slices"
	"strings"
	"testing"

	"hibernacle/api"
	"hibernacle/drive"
	"hibernacle/hash"
)

func block(s string) string { return strings.Repeat(s, 128) }

func volume(n int) []string {
	var v []string
	for i := range n {
		v = append(v, block(string(rune('a'+i%26))))
	}
	return v
}

func drv(t *testing.T, n int) api.Drive {
	t.Helper()
	d, e := Format(volume(n))
	if e != api.OK {
		t.Fatal(e)
	}
	return d
}

func same(a, b api.Drive) bool {
	return slices.Equal(a.Blocks, b.Blocks) && slices.Equal(a.Pending, b.Pending) && a.Left == b.Left
}

func changed(v []string, l []api.Write) []string {
	v = slices.Clone(v)
	for _, w := range l {
		v[w.Block] = w.Data
	}
	return v
}

// P16.1
func TestFormatHome(t *testing.T) {
	for _, n := range []int{1, 223} {
		d := drv(t, n)
		if len(d.Blocks) != 33+n || d.Left != -1 || len(d.Pending) != 0 || d.Blocks[32] != block("\x00") || !slices.Equal(Home(d), volume(n)) {
			t.Error(n)
		}
	}
	for _, v := range [][]string{nil, volume(224), slices.Repeat([]string{"x"}, 224)} {
		if d, e := Format(v); e != api.ErrRange || !same(d, api.Drive{}) {
			t.Error(len(v), e)
		}
	}
	if d, e := Format([]string{block("x"), "y"}); e != api.ErrForm || !same(d, api.Drive{}) {
		t.Error(e)
	}
	short, _ := drive.New(33)
	if Home(short) != nil || Home(api.Drive{Blocks: slices.Repeat([]string{"x"}, 50)}) != nil {
		t.Error("no drive with a journal has a volume")
	}
	d, _ := drive.Put(drv(t, 2), 34, block("Z"))
	if Home(d)[1] != block("Z") {
		t.Error("pending writes count")
	}
}

// P16.1
func TestCommitErrors(t *testing.T) {
	good := drv(t, 3)
	short, _ := drive.New(33)
	bent := drv(t, 3)
	bent.Blocks[1] = "x"
	w := api.Write{Block: 1, Data: block("W")}
	for i, c := range []struct {
		d    api.Drive
		l    []api.Write
		want api.Errno
	}{
		{bent, nil, api.ErrForm}, {short, nil, api.ErrRange}, {good, slices.Repeat([]api.Write{{Block: 99}}, 33), api.ErrLimit},
		{good, []api.Write{w, {Block: 3, Data: "x"}}, api.ErrRange}, {good, []api.Write{{Block: -1}}, api.ErrRange},
		{good, []api.Write{w, {Block: 1, Data: "x"}}, api.ErrForm}, {good, []api.Write{w, w, {Block: 9}}, api.ErrTwice}, {good, nil, api.OK},
	} {
		if d, e := Commit(c.d, c.l); e != c.want || !same(d, c.d) {
			t.Error(i, e)
		}
	}
	for i, d := range []api.Drive{bent, short} {
		if got, e := Recover(d); e == api.OK || !same(got, d) {
			t.Error(i, e)
		}
	}
	if got, e := Recover(good); e != api.OK || !same(got, good) {
		t.Error(e)
	}
}

// P16.1: which calls are made, in which order.
func TestCommitCalls(t *testing.T) {
	d := drv(t, 3)
	l := []api.Write{{Block: 2, Data: block("X")}, {Block: 0, Data: block("Y")}}
	d.Left = 4
	d, e := Commit(d, l)
	if e != api.ErrGone || d.Left != 0 || len(d.Pending) != 0 {
		t.Fatal(e, d.Left)
	}
	text := "hibj\x02\x00\x02\x00\x00\x00" + strings.Repeat("\x00", 60)
	sum := hash.Sum(text, block("X"), block("Y"))
	if d.Blocks[0] != text+string(sum[:])+strings.Repeat("\x00", 26) || d.Blocks[1] != block("X") || d.Blocks[2] != block("Y") {
		t.Errorf("%q", d.Blocks[:3])
	}
	if !slices.Equal(Home(d), volume(3)) {
		t.Error("it is home too early")
	}
	d.Left = 1
	d, e = Recover(d)
	if e != api.ErrGone || len(d.Pending) != 1 || d.Pending[0].Block != 35 {
		t.Error(e, d.Pending)
	}
	d.Left = 3
	d, e = Recover(d)
	if e != api.OK || d.Left != 0 || !slices.Equal(Home(d), changed(volume(3), l)) {
		t.Error(e)
	}
	one := drv(t, 1)
	one.Left = 5
	one, e = Commit(one, []api.Write{{Data: block("q")}})
	if e != api.OK || one.Left != 0 {
		t.Error(e, one.Left)
	}
}

// P16.1: a journal that was bent tells nothing.
func TestBentJournal(t *testing.T) {
	d, _ := Commit(drv(t, 3), []api.Write{{Block: 1, Data: block("X")}})
	d.Blocks[34] = block("b")
	good, _ := Recover(d)
	if Home(good)[1] != block("X") {
		t.Error("it tells")
	}
	for i := range 128 {
		bent := d
		bent.Blocks = slices.Clone(d.Blocks)
		b := []byte(d.Blocks[0])
		b[i] ^= 64
		bent.Blocks[0] = string(b)
		if got, e := Recover(bent); e != api.OK || !same(got, bent) {
			t.Error(i, e)
		}
	}
	d.Blocks[1] = block("Y")
	if got, _ := Recover(d); !same(got, d) {
		t.Error("other data")
	}
}

// P16.2, P16.3: wherever the power is gone, whatever is half done.
func TestPower(t *testing.T) {
	first := []api.Write{{Block: 1, Data: block("1")}, {Block: 4, Data: block("2")}}
	second := []api.Write{{Block: 4, Data: block("3")}, {Block: 0, Data: block("4")}, {Block: 2, Data: block("5")}}
	begin := drv(t, 6)
	before, _ := Commit(begin, first)
	was := changed(volume(6), first)
	will := changed(was, second)
	x := uint32(3)
	for left := range 10 {
		for range 60 {
			var picks []int
			for range 12 {
				x = x*1664525 + 1013904223
				picks = append(picks, int(x>>16))
			}
			d := before
			d.Left = left
			d, e := Commit(d, second)
			d, f := Recover(drive.Crash(d, picks))
			v := Home(d)
			if f != api.OK || !slices.Equal(v, will) && (e == api.OK || !slices.Equal(v, was)) {
				t.Fatal(left, e, f)
			}
			// The power may be gone in recovering, too.
			d.Left = left % 4
			d, _ = Recover(d)
			d, _ = Recover(drive.Crash(d, picks))
			if !slices.Equal(Home(d), v) {
				t.Fatal(left)
			}
		}
	}
}

// P16.1: as many writes as may be, and writes that aren't on the volume.
func TestMost(t *testing.T) {
	d := drv(t, 40)
	var l []api.Write
	for i := range 32 {
		l = append(l, api.Write{Block: 39 - i, Data: block(string(rune('A' + i)))})
	}
	d.Left = 34
	d, e := Commit(d, l)
	if e != api.ErrGone || d.Left != 0 {
		t.Fatal(e, d.Left)
	}
	d.Left = -1
	d, e = Recover(d)
	if e != api.OK || !slices.Equal(Home(d), changed(volume(40), l)) {
		t.Error(e)
	}
	if _, e := Commit(d, append(l, api.Write{})); e != api.ErrLimit {
		t.Error(e)
	}
	// A journal of a greater volume's block tells nothing here.
	small := drv(t, 5)
	copy(small.Blocks, d.Blocks[:33])
	if got, e := Recover(small); e != api.OK || !slices.Equal(Home(got), volume(5)) {
		t.Error(e)
	}
	last := drv(t, 5)
	last, e = Commit(last, []api.Write{{Block: 4, Data: block("L")}})
	if e != api.OK || Home(last)[4] != block("L") {
		t.Error(e)
	}
	four := drv(t, 4)
	copy(four.Blocks, last.Blocks[:33])
	if got, e := Recover(four); e != api.OK || !same(got, four) {
		t.Error(e)
	}
}
