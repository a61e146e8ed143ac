package names

import (
	"strings"
	"testing"
)

func TestIsMachine(t *testing.T) {
	for name, want := range map[string]bool{"a": true, "m-1.z": true, strings.Repeat("9", 24): true, strings.Repeat("9", 25): false, "": false, "A": false, "a_b": false, "a/b": false, "\xff": false} {
		if IsMachine(name) != want {
			t.Error(name)
		}
	}
}

func TestRoot(t *testing.T) {
	for n, want := range map[int]string{1: "root/00000001", 99999999: "root/99999999", 123456789: "root/123456789"} {
		if got := Root(n); got != want || IsRoot(got) != (n < 100000000) {
			t.Error(got)
		}
	}
	for _, name := range []string{"", "root/", "root/1234567", "root/1234567a", "pack/00000001", "00000001", "root/0000000\xff"} {
		if IsRoot(name) {
			t.Error(name)
		}
	}
}

func TestEdges(t *testing.T) {
	for name, want := range map[string]bool{"z": true, "0": true, "9": true, "`": false, "{": false, "/": false, ":": false} {
		if IsMachine(name) != want {
			t.Error(name)
		}
	}
	for name, want := range map[string]bool{"root/09090909": true, "root/0000000/": false, "root/0000000:": false, "root/a0000000": false, "root/000000000": false} {
		if IsRoot(name) != want {
			t.Error(name)
		}
	}
}
