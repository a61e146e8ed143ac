package cipher

import (
	"encoding/hex"
	"math"
	"strings"
	"testing"

	"hibernacle/api"
)

func key() api.Key {
	var k api.Key
	for i := range k {
		k[i] = byte(i)
	}
	return k
}

// P3.1: the known answer of RFC 8439, 2.3.2.
func TestBlock(t *testing.T) {
	b := Block(key(), [12]byte{3: 9, 7: 0x4a}, 1)
	want := "10f1e7e4d13b5915500fdd1fa32071c4c7d1f4c733c068030422aa9ac3d46c4e" +
		"d2826446079faa0914c2d705d98b02a2b5129cd1de164eb9cbd083e8a2503c4e"
	if got := hex.EncodeToString(b[:]); got != want {
		t.Error(got)
	}
	z := Block(api.Key{}, [12]byte{}, 0)
	if hex.EncodeToString(z[:4]) != "76b8e0ad" {
		t.Error("zeros")
	}
}

// P3.1: the known answer of RFC 8439, 2.4.2.
func TestXor(t *testing.T) {
	text := "Ladies and Gentlemen of the class of '99: If I could offer you only one tip for the future, sunscreen would be it."
	got := hex.EncodeToString([]byte(Xor(key(), [12]byte{7: 0x4a}, 1, text)))
	if !strings.HasPrefix(got, "6e2e359a2568f98041ba0728dd0d6981") || !strings.HasSuffix(got, "8eedf2785e42874d") || len(got) != 228 {
		t.Error(got)
	}
	// Behind the last number comes 0.
	zeros := strings.Repeat("\x00", 128)
	last, first := Block(key(), [12]byte{}, math.MaxUint32), Block(key(), [12]byte{}, 0)
	if Xor(key(), [12]byte{}, math.MaxUint32, zeros) != string(last[:])+string(first[:]) {
		t.Error("the number doesn't go round")
	}
	if Xor(key(), [12]byte{}, 5, "") != "" {
		t.Error("nothing")
	}
}

// P3.2
func TestThereAndBack(t *testing.T) {
	for n := range 200 {
		s := strings.Repeat("q", n)
		x := Xor(key(), [12]byte{1}, 7, s)
		if len(x) != n || Xor(key(), [12]byte{1}, 7, x) != s {
			t.Error(n)
		}
	}
}

// P3.3
func TestPartByPart(t *testing.T) {
	s := strings.Repeat("abcdefg", 60)
	whole := Xor(key(), [12]byte{}, math.MaxUint32-1, s)
	for i := range 6 {
		n := uint32(math.MaxUint32-1) + uint32(i)
		if Xor(key(), [12]byte{}, n, s[64*i:]) != whole[64*i:] {
			t.Error(i)
		}
	}
}
