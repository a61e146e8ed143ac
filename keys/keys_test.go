package keys

import (
	"slices"
	"strings"
	"testing"

	"hibernacle/api"
	"hibernacle/hash"
	"hibernacle/num"
	"hibernacle/seal"
	"hibernacle/share"
)

func noise(c byte) string {
	b := make([]byte, 64)
	for i := range b {
		b[i] = byte(i)*7 + c
	}
	return string(b)
}

func key(c byte) api.Key { return api.Key{0: c, 31: 9} }

// ring has the keys 1, 2 .., and the shares of each epoch.
func ring(t *testing.T, n int) (api.Ring, api.Keys, [][]api.Share) {
	t.Helper()
	r, k, l, e := Make(key(1), noise(1))
	all := [][]api.Share{l}
	for i := 2; i <= n && e == api.OK; i++ {
		r, k, l, e = Rotate(r, k, key(byte(i)), noise(byte(i)))
		all = append(all, l)
	}
	if e != api.OK {
		t.Fatal(e)
	}
	return r, k, all
}

func sameRing(a, b api.Ring) bool { return slices.Equal(a.Epochs, b.Epochs) }
func sameKeys(a, b api.Keys) bool { return slices.Equal(a.All, b.All) }

// P38.1
func TestMakeRotate(t *testing.T) {
	r, k, l := ring(t, 2)
	nonce := hash.Keyed(key(2), "nonce")
	first := key(1)
	want := []api.Epoch{
		{Check: hash.Keyed(key(1), "check")},
		{Check: hash.Keyed(key(2), "check"), Wrap: seal.Seal(api.Key(hash.Keyed(key(2), "wrap")), seal.Nonce(string(nonce[:])), "ring", string(first[:]))},
	}
	if !slices.Equal(r.Epochs, want) || !slices.Equal(k.All, []api.Key{key(1), key(2)}) {
		t.Error("the ring")
	}
	shares, _ := share.Split(key(2), 5, noise(2))
	if !slices.Equal(l[1], shares) || len(l[0]) != 5 {
		t.Error("the shares")
	}
	if r, k, l, e := Make(key(1), "x"); e != api.ErrArg || r.Epochs != nil || k.All != nil || l != nil {
		t.Error(e)
	}
}

// P38.1
func TestRotateErrors(t *testing.T) {
	r, k, _ := ring(t, 3)
	many, all, _ := ring(t, 100)
	for i, c := range []struct {
		r     api.Ring
		k     api.Keys
		next  api.Key
		noise string
		want  api.Errno
	}{
		{r, api.Keys{}, key(1), "", api.ErrArg}, {many, k, key(1), "", api.ErrArg}, {r, api.Keys{All: []api.Key{key(1), key(2), key(4)}}, key(1), "", api.ErrKey}, {many, all, key(1), "", api.ErrLimit}, {r, k, key(2), "", api.ErrTwice}, {r, k, key(9), "x", api.ErrArg},
	} {
		r, k, l, e := Rotate(c.r, c.k, c.next, c.noise)
		if e != c.want || r.Epochs != nil || k.All != nil || l != nil {
			t.Error(i, e)
		}
	}
}

// P38.2, P38.5
func TestOpen(t *testing.T) {
	r, k, l := ring(t, 4)
	if got, e := Open(r, l[3][1:4]); e != api.OK || !sameKeys(got, k) {
		t.Error(e)
	}
	for i := range 3 {
		if got, e := Open(r, l[i][:3]); e != api.ErrKey || got.All != nil {
			t.Error(i, e)
		}
	}
	if _, e := Open(api.Ring{}, nil); e != api.ErrArg {
		t.Error(e)
	}
	if _, e := Open(r, l[3][:2]); e != api.ErrArg {
		t.Error(e)
	}
	for i, turn := range []func(l []api.Epoch){
		func(l []api.Epoch) { l[3].Check[0] ^= 1 }, func(l []api.Epoch) { l[1].Check[9] ^= 1 }, func(l []api.Epoch) { l[0].Check[9] ^= 1 }, func(l []api.Epoch) { l[2].Wrap = l[1].Wrap }, func(l []api.Epoch) { l[2].Wrap = "" },
		func(l []api.Epoch) {
			l[2].Wrap = seal.Seal(api.Key(hash.Keyed(key(3), "wrap")), [12]byte{}, "ring", "short")
		},
	} {
		bent := api.Ring{Epochs: slices.Clone(r.Epochs)}
		turn(bent.Epochs)
		if got, e := Open(bent, l[3][:3]); e != api.ErrKey || got.All != nil {
			t.Error(i, e)
		}
		if e := Check(bent, k); e != api.ErrKey {
			t.Error(i, e)
		}
	}
	// The first epoch's Wrap isn't asked; but the ring is another one then.
	odd := api.Ring{Epochs: slices.Clone(r.Epochs)}
	odd.Epochs[0].Wrap = "x"
	if got, e := Open(odd, l[3][:3]); e != api.OK || !sameKeys(got, k) {
		t.Error(e)
	}
	if Check(odd, k) != api.ErrKey || Check(r, k) != api.OK || Check(api.Ring{}, api.Keys{}) != api.ErrArg || Check(r, api.Keys{All: k.All[:3]}) != api.ErrArg {
		t.Error("check")
	}
}

// P38.3, P38.5
func TestIdBox(t *testing.T) {
	_, k, _ := ring(t, 3)
	_, one, _ := ring(t, 1)
	if Id(k) != api.Key(hash.Keyed(key(1), "names")) || Id(k) != Id(one) || Id(api.Keys{}) != (api.Key{}) {
		t.Error("id")
	}
	for i := range 3 {
		if b, e := Box(k, i); e != api.OK || b != api.Key(hash.Keyed(key(byte(i+1)), "boxes")) {
			t.Error(i, e)
		}
	}
	for _, i := range []int{-1, 3, 1 << 40} {
		if b, e := Box(k, i); e != api.ErrArg || b != (api.Key{}) {
			t.Error(i, e)
		}
	}
}

// P38.4
func TestBytes(t *testing.T) {
	r, _, _ := ring(t, 3)
	b, e := Bytes(r)
	c0, c1 := r.Epochs[0].Check, r.Epochs[1].Check
	if e != api.OK || !strings.HasPrefix(b, num.Row(string(c0[:]), "", string(c1[:]), r.Epochs[1].Wrap)) {
		t.Error(e)
	}
	if got, e := Of(b); e != api.OK || !sameRing(got, r) {
		t.Error(e)
	}
	full := slices.Repeat(r.Epochs[1:2], 101)
	full[0].Wrap = ""
	for i, bad := range []api.Ring{{}, {Epochs: r.Epochs[1:]}, {Epochs: []api.Epoch{{}, {}}}, {Epochs: full}} {
		if b, e := Bytes(bad); b != "" || e != api.ErrForm {
			t.Error(i, e)
		}
	}
	if b, e := Bytes(api.Ring{Epochs: full[:100]}); e != api.OK || len(b) == 0 {
		t.Error(e)
	}
	d := string(c0[:])
	for bad, want := range map[string]api.Errno{"": api.ErrForm, "\x05": api.ErrShort, "\x80\x00": api.ErrForm, num.Row(d): api.ErrForm, num.Row(d, "x"): api.ErrForm, num.Row(d, "", d, ""): api.ErrForm, num.Row(d+"x", ""): api.ErrForm, num.Row(d, "", d[1:], "x"): api.ErrForm} {
		if r, e := Of(bad); e != want || r.Epochs != nil {
			t.Errorf("%q: %d", bad, e)
		}
	}
}
