package num

import (
	"math"
	"slices"
	"strings"
	"testing"

	"hibernacle/api"
)

// P1.1
func TestPutGet(t *testing.T) {
	cases := []struct {
		n    uint64
		size int
		want string
	}{
		{258, 3, "\x02\x01\x00"}, {258, 1, "\x02"}, {258, 0, ""}, {258, -7, ""}, {258, math.MinInt, ""},
		{math.MaxUint64, 100, strings.Repeat("\xff", 8)}, {1 << 56, math.MaxInt, "\x00\x00\x00\x00\x00\x00\x00\x01"},
	}
	for _, c := range cases {
		if got := Put(c.n, c.size); got != c.want {
			t.Errorf("Put(%d, %d) = %q", c.n, c.size, got)
		}
	}
	for s, want := range map[string]uint64{"": 0, "\x05": 5, "\x02\x01\x00": 258, "\x01\x00\x00\x00\x00\x00\x00\x80\xff": 1<<63 + 1} {
		if got := Get(s); got != want {
			t.Errorf("Get(%q) = %d", s, got)
		}
	}
}

// P1.2
func TestRow(t *testing.T) {
	if got := Row("ab", ""); got != "\x02ab\x00" {
		t.Errorf("%q", got)
	}
	long := Row(strings.Repeat("z", 300))
	if long[:2] != "\xac\x02" || len(long) != 302 {
		t.Errorf("%q", long[:4])
	}
	if Row() != "" {
		t.Error("a row of nothing has bytes")
	}
	for _, n := range []int{127, 128, 16383, 16384, 1 << 21} {
		s := strings.Repeat("q", n)
		if l, e := Texts(Row("a", s, "b")); e != api.OK || !slices.Equal(l, []string{"a", s, "b"}) {
			t.Error(n, e)
		}
	}
}

// P1.2: the error of the first place counts.
func TestTextsWrong(t *testing.T) {
	for b, want := range map[string]api.Errno{
		"\x80\x00": api.ErrForm, "\x03ab": api.ErrShort, "\x80": api.ErrShort, "\xff\xff\xff": api.ErrShort,
		"\xff\xff\xff\xff": api.ErrForm, "\x81\x80\x80\x00": api.ErrForm, "\x00\x80\x80": api.ErrShort,
		"\x01a\x81\x00": api.ErrForm, "\x81\x80\x80\x01": api.ErrShort,
	} {
		if l, e := Texts(b); e != want || l != nil {
			t.Errorf("%q: %v %d", b, l, e)
		}
	}
}

// P1.3
func TestDecInt(t *testing.T) {
	for _, n := range []int64{0, 7, -7, 10, math.MaxInt64, math.MinInt64} {
		if m, ok := Int(Dec(n)); !ok || m != n {
			t.Error(n, m, ok)
		}
	}
	if Dec(-120) != "-120" || Dec(0) != "0" {
		t.Error("form")
	}
	for _, s := range []string{"", "-", "-0", "+1", "01", "1 ", "0x1", "1_0", "9223372036854775808"} {
		if n, ok := Int(s); ok || n != 0 {
			t.Errorf("%q: %d", s, n)
		}
	}
}

// P1.4
func TestRowsFollow(t *testing.T) {
	a, b := []string{"x", "", "yz"}, []string{"", "q"}
	if Row(a...)+Row(b...) != Row(append(slices.Clone(a), b...)...) {
		t.Error("one behind the other")
	}
	if Row("ab") == Row("a", "b") || Row() == Row("") {
		t.Error("unlike rows have the same bytes")
	}
	// Bytes that tell a row are those of that row.
	for i := range 1 << 16 {
		b := Put(uint64(i), 2)
		if l, e := Texts(b); e == api.OK && Row(l...) != b {
			t.Fatalf("%q", b)
		}
	}
	for _, n := range []uint64{0, 1, 1 << 40, math.MaxUint64} {
		if Get(Put(n, 8)) != n {
			t.Error(n)
		}
	}
}
