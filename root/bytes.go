package root

import (
	"hibernacle/api"
	"hibernacle/num"
)

const (
	magic    = "hibr"
	texts    = 10
	longSize = 8
)

// rows is a row of rows, one for each of a list.
func rows[T any](l []T, one func(x T) []string) string {
	var out []string
	for _, x := range l {
		out = append(out, num.Row(one(x)...))
	}
	return num.Row(out...)
}

// read is the list whose row of rows this is.
func read[T any](b string, one func(l []string) (T, bool)) ([]T, bool) {
	all, e := num.Texts(b)
	if e != api.OK {
		return nil, false
	}
	var out []T
	for _, s := range all {
		l, e := num.Texts(s)
		if e != api.OK {
			return nil, false
		}
		x, ok := one(l)
		if !ok {
			return nil, false
		}
		out = append(out, x)
	}
	return out, true
}

func dec(n int) string { return num.Dec(int64(n)) }

// reader reads numbers, and remembers whether all were such.
func reader() (func(s string) int64, func() bool) {
	all := true
	number := func(s string) int64 {
		n, ok := num.Int(s)
		all = all && ok
		return n
	}
	return number, func() bool { return all }
}

func refTexts(x api.Ref) []string {
	return []string{x.Machine, dec(x.N), num.Dec(x.At), x.Name, num.Dec(x.Until)}
}

func refOf(l []string) (api.Ref, bool) {
	if len(l) != 5 {
		return api.Ref{}, false
	}
	number, all := reader()
	x := api.Ref{Machine: l[0], N: int(number(l[1])), At: number(l[2]), Name: l[3], Until: number(l[4])}
	return x, all()
}

func packTexts(x api.Packed) []string {
	l := []string{x.Name}
	for _, p := range x.Places {
		l = append(l, p.Name, dec(p.At), dec(p.Len))
	}
	return l
}

func packOf(l []string) (api.Packed, bool) {
	if len(l)%3 != 1 {
		return api.Packed{}, false
	}
	number, all := reader()
	x := api.Packed{Name: l[0]}
	for i := 1; i < len(l); i += 3 {
		x.Places = append(x.Places, api.Place{Name: l[i], At: int(number(l[i+1])), Len: int(number(l[i+2]))})
	}
	return x, all()
}

func chanTexts(c api.Chan) []string {
	return []string{c.Machine, num.Put(c.N, longSize), string(c.Key[:])}
}

func chanOf(l []string) (api.Chan, bool) {
	if len(l) != 3 || len(l[1]) != longSize || len(l[2]) != len(api.Key{}) {
		return api.Chan{}, false
	}
	c := api.Chan{Machine: l[0], N: num.Get(l[1])}
	copy(c.Key[:], l[2])
	return c, true
}

// Bytes is a root's bytes.
func Bytes(r api.Root) (string, api.Errno) {
	if e := Check(r); e != api.OK {
		return "", e
	}
	p := r.Policy
	return num.Row(
		magic, dec(r.N), num.Dec(r.Now), rows(r.Refs, refTexts), rows(r.Packs, packTexts),
		dec(p.Days), dec(p.Weeks), dec(p.Months), dec(p.Years), rows(r.Chans, chanTexts),
	), api.OK
}

// Of is the root of bytes.
func Of(b string) (api.Root, api.Errno) {
	l, e := num.Texts(b)
	if e != api.OK {
		return api.Root{}, e
	}
	if len(l) != texts || l[0] != magic {
		return api.Root{}, api.ErrForm
	}
	number, all := reader()
	r := api.Root{
		N: int(number(l[1])), Now: number(l[2]),
		Policy: api.Policy{Days: int(number(l[5])), Weeks: int(number(l[6])), Months: int(number(l[7])), Years: int(number(l[8]))},
	}
	var refs, packs, chans bool
	r.Refs, refs = read(l[3], refOf)
	r.Packs, packs = read(l[4], packOf)
	r.Chans, chans = read(l[9], chanOf)
	if !all() || !refs || !packs || !chans || Check(r) != api.OK {
		return api.Root{}, api.ErrForm
	}
	return r, api.OK
}
