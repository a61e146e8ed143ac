package seal

import (
	"strings"
	"testing"

	"hibernacle/api"
	"hibernacle/cipher"
	"hibernacle/hash"
	"hibernacle/num"
)

var key = api.Key{1, 2, 3}

// P4.1: the box is laid out as the words say.
func TestBox(t *testing.T) {
	nonce := [12]byte{9, 8}
	body := string(nonce[:]) + cipher.Xor(api.Key(hash.Keyed(key, "cipher")), nonce, 1, "data")
	tag := hash.Keyed(api.Key(hash.Keyed(key, "tag")), num.Row("head", body))
	if got := Seal(key, nonce, "head", "data"); got != body+string(tag[:]) {
		t.Errorf("%q", got)
	}
}

// P4.1
func TestNonce(t *testing.T) {
	for s, want := range map[string][12]byte{"": {}, "ab": {97, 98}, strings.Repeat("z", 12) + "y": {122, 122, 122, 122, 122, 122, 122, 122, 122, 122, 122, 122}} {
		if got := Nonce(s); got != want {
			t.Errorf("%q: %v", s, got)
		}
	}
}

// P4.1, P4.2
func TestThereAndBack(t *testing.T) {
	for _, n := range []int{0, 1, 63, 64, 65, 1000} {
		data := strings.Repeat("x", n)
		box := Seal(key, [12]byte{5}, "h", data)
		if len(box) != n+44 {
			t.Error(n, len(box))
		}
		if got, e := Open(key, "h", box); e != api.OK || got != data {
			t.Error(n, e)
		}
	}
}

// P4.1
func TestShort(t *testing.T) {
	for n := range 44 {
		if got, e := Open(key, "", strings.Repeat("\x00", n)); e != api.ErrShort || got != "" {
			t.Error(n, e)
		}
	}
	if _, e := Open(key, "", strings.Repeat("\x00", 44)); e != api.ErrSum {
		t.Error(e)
	}
}

// P4.3
func TestBent(t *testing.T) {
	box := Seal(key, [12]byte{5}, "head", "some data")
	for i := range len(box) {
		b := []byte(box)
		b[i] ^= 1
		if got, e := Open(key, "head", string(b)); e != api.ErrSum || got != "" {
			t.Error(i, e)
		}
	}
	if _, e := Open(key, "hea", box); e != api.ErrSum {
		t.Error("another head")
	}
	if _, e := Open(api.Key{1, 2}, "head", box); e != api.ErrSum {
		t.Error("another key")
	}
	if _, e := Open(key, "head", box+"x"); e != api.ErrSum {
		t.Error("longer")
	}
}
