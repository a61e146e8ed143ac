package hash

import (
	"strings"
	"testing"

	"hibernacle/api"
)

func key() api.Key {
	var k api.Key
	for i := range k {
		k[i] = byte(i)
	}
	return k
}

// ascending is the bytes 0, 1, 2 .., so many.
func ascending(n int) string {
	b := make([]byte, n)
	for i := range b {
		b[i] = byte(i)
	}
	return string(b)
}

// P2.1
func TestSum(t *testing.T) {
	for s, want := range map[string]string{
		"":    "69217a3079908094e11121d042354a7c1f55b6482ca1a51e1b250dfd1ed0eef9",
		"abc": "508c5e8c327c14e2e1a72ba34eeb452f37458b209ed63a294d999b4c86675982",
	} {
		if got := Hex(Sum(s)); got != want {
			t.Errorf("%q: %s", s, got)
		}
	}
	for n, want := range map[int]string{
		63:  "e57cb79487dd57902432b250733813bd96a84efce59f650fac26e6696aefafc3",
		64:  "56f34e8b96557e90c1f24b52d0c89d51086acf1b00f634cf1dde9233b8eaaa3e",
		65:  "1b53ee94aaf34e4b159d48de352c7f0661d0a40edff95a0b1639b4090e974472",
		128: "1fa877de67259d19863a2a34bcc6962a2b25fcbf5cbecd7ede8f1fa36688a796",
	} {
		if got := Hex(Sum(ascending(n))); got != want {
			t.Errorf("%d: %s", n, got)
		}
	}
	if Sum() != Sum("") {
		t.Error("no parts")
	}
}

// P2.1: known answers of BLAKE2s with the key 0 to 31, at the edges of blocks.
func TestKeyed(t *testing.T) {
	for n, want := range map[int]string{
		0:   "48a8997da407876b3d79c0d92325ad3b89cbb754d86ab71aee047ad345fd2c49",
		1:   "40d15fee7c328830166ac3f918650f807e7e01e177258cdc0a39b11f598066f1",
		2:   "6bb71300644cd3991b26ccd4d274acd1adeab8b1d7914546c1198bbe9fc9d803",
		64:  "8975b0577fd35566d750b362b0897a26c399136df07bababbde6203ff2954ed4",
		65:  "21fe0ceb0052be7fb0f004187cacd7de67fa6eb0938d927677f2398c132317a8",
		128: "0c311f38c35a4fb90d651c289d486856cd1413df9b0677f53ece2cd9e477c60a",
		255: "3fb735061abc519dfe979e54c1ee5bfad0a9d858b3315bad34bde999efd724dd",
	} {
		if got := Hex(Keyed(key(), ascending(n))); got != want {
			t.Errorf("%d: %s", n, got)
		}
	}
	if Keyed(api.Key{}) == Sum() || Keyed(api.Key{}) == Keyed(key()) {
		t.Error("the key plays no part")
	}
}

// P2.1: whatever bytes are behind one another, the digests differ.
func TestLengths(t *testing.T) {
	seen := map[api.Digest]bool{}
	for n := range 300 {
		seen[Sum(strings.Repeat("\x00", n))] = true
		seen[Keyed(key(), strings.Repeat("\x00", n))] = true
	}
	if len(seen) != 600 {
		t.Error(len(seen))
	}
}

// P2.2
func TestHexOf(t *testing.T) {
	d := Sum("x")
	if got, ok := Of(Hex(d)); !ok || got != d {
		t.Error("there and back")
	}
	h := Hex(d)
	for _, s := range []string{"", h[1:], h + "0", strings.ToUpper(h), h[:63] + "g", h[:62] + "/0", strings.Repeat("é", 32)} {
		if got, ok := Of(s); ok || got != (api.Digest{}) {
			t.Errorf("%q", s)
		}
	}
	if Hex(api.Digest{0xab, 1})[:4] != "ab01" {
		t.Error("the heavier half comes first")
	}
}

// P2.3
func TestParts(t *testing.T) {
	s := ascending(200)
	for i := 0; i <= 200; i += 7 {
		if Sum(s[:i], s[i:]) != Sum(s) || Sum(s[:i], "", s[i:]) != Sum(s) {
			t.Error(i)
		}
		if Keyed(key(), s[:i], s[i:]) != Keyed(key(), s) {
			t.Error(i)
		}
	}
}
