package saved

import (
	"strings"
	"testing"

	"hibernacle/api"
	"hibernacle/keys"
	"hibernacle/root"
)

func TestRoot(t *testing.T) {
	ring, k, l, _ := keys.Make(api.Key{1}, strings.Repeat("n", 64))
	v := api.Vault{Store: api.Store{Left: 5}, Ring: ring, Keys: k, Root: api.Root{N: 6}}
	v, e := Root(v, api.Root{N: 99, Now: 5})
	if e != api.OK || v.Root.N != 7 || v.Root.Now != 5 {
		t.Error(e, v.Root.N)
	}
	st := v.Store
	st.Left = -1
	if _, _, _, r, e := root.Load(st, l[:3]); e != api.OK || r.N != 7 {
		t.Error(e)
	}
	if got, e := Root(v, api.Root{Now: 9}); e != api.ErrGone || got.Root.N != 7 || got.Root.Now != 5 {
		t.Error(e)
	}
}
