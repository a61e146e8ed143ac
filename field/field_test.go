package field

import "testing"

// P5.1
func TestMulInv(t *testing.T) {
	if Mul(2, 128) != 29 || Inv(2) != 142 || Inv(0) != 0 || Inv(1) != 1 || Mul(0, 7) != 0 || Mul(1, 7) != 7 {
		t.Error("examples")
	}
	for a := 1; a < 256; a++ {
		if Mul(byte(a), Inv(byte(a))) != 1 {
			t.Error(a)
		}
	}
	// The powers of x are all elements but 0.
	seen, p := map[byte]bool{}, byte(1)
	for range 255 {
		seen[p] = true
		p = Mul(p, 2)
	}
	if len(seen) != 255 || p != 1 {
		t.Error(len(seen))
	}
}

// P5.2
func TestEval(t *testing.T) {
	if Eval([]byte{1, 2}, 3) != 7 || Eval(nil, 9) != 0 || Eval([]byte{5, 6}, 0) != 5 || Eval([]byte{0, 0, 1}, 16) != 29 {
		t.Error("values")
	}
}

// P5.2
func TestAt(t *testing.T) {
	if v, ok := At([]byte{1, 2}, []byte{5, 5}, 9); !ok || v != 5 {
		t.Error(v, ok)
	}
	if v, ok := At(nil, nil, 9); !ok || v != 0 {
		t.Error("no points")
	}
	for _, c := range [][2][]byte{{{1}, nil}, {nil, {1}}, {{1, 2, 1}, {3, 4, 3}}, {{0, 0}, {0, 0}}} {
		if v, ok := At(c[0], c[1], 1); ok || v != 0 {
			t.Error(c)
		}
	}
	xs := make([]byte, 257)
	for i := range xs {
		xs[i] = byte(i)
	}
	if _, ok := At(xs, xs, 0); ok {
		t.Error("257 points can't be unlike")
	}
	if v, ok := At(xs[:256], xs[:256], 77); !ok || v != 77 {
		t.Error(v, ok)
	}
}

// P5.3
func TestField(t *testing.T) {
	for i := range 20000 {
		a, b, c := byte(i), byte(i*7/3), byte(i*31/5)
		if Mul(a, b) != Mul(b, a) || Mul(Mul(a, b), c) != Mul(a, Mul(b, c)) || Mul(a, b^c) != Mul(a, b)^Mul(a, c) {
			t.Fatal(a, b, c)
		}
	}
	l, xs := []byte{7, 200, 31, 4}, []byte{0, 9, 255, 18}
	ys := make([]byte, len(xs))
	for i, x := range xs {
		ys[i] = Eval(l, x)
	}
	for x := range 256 {
		if v, ok := At(xs, ys, byte(x)); !ok || v != Eval(l, byte(x)) {
			t.Error(x)
		}
	}
	// A point more may have any value.
	for y := range 256 {
		if v, ok := At(append(xs, 77), append(ys, byte(y)), 77); !ok || v != byte(y) {
			t.Error(y)
		}
	}
}
