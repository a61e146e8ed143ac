// Package rules holds all calls of the layers against the document's rules:
// none panics, none changes what it is given, none answers what shares with that, all answer alike.
package rules

import (
	"maps"
	"math"
	"math/rand"
	"reflect"
	"slices"
	"strings"
	"testing"

	"hibernacle/agent"
	"hibernacle/api"
	"hibernacle/fs"
	"hibernacle/image"
	"hibernacle/machine"
	"hibernacle/num"
	"hibernacle/progs"
	"hibernacle/record"
	"hibernacle/vault"
)

const (
	calls   = 40000
	maxPool = 60
)

// maker makes arguments: of values that were given or answered, bent ones, and any.
type maker struct {
	r     *rand.Rand
	good  map[reflect.Type][]reflect.Value
	met   map[reflect.Type][]reflect.Value
	texts []string
	told  []string
}

var numbers = []int64{-1, 0, 1, 2, 3, 4, 5, 7, 8, 9, 15, 16, 31, 32, 33, 60, 64, 65, 127, 128, 129, 223, 224, 256, 1000, 1001, 2048, 8960, 8961, 65535, 65536, 100001, 1 << 31, -1 << 31, 1 << 40, math.MaxInt64, math.MinInt64}

func (m *maker) number() int64 {
	if m.r.Intn(2) == 0 {
		return int64(m.r.Intn(10))
	}
	return numbers[m.r.Intn(len(numbers))]
}

func (m *maker) text() string {
	l := m.texts
	if m.r.Intn(2) == 0 && len(m.told) > 0 {
		l = m.told
	}
	s := l[m.r.Intn(len(l))]
	if s == "" || m.r.Intn(3) > 0 {
		return s
	}
	i := m.r.Intn(len(s))
	if m.r.Intn(2) == 0 {
		return s[:i]
	}
	return s[:i] + string([]byte{s[i] ^ 1<<m.r.Intn(8)}) + s[i+1:]
}

// value is a value of a type.
func (m *maker) value(t reflect.Type) reflect.Value {
	for _, l := range [][]reflect.Value{m.good[t], m.met[t]} {
		if len(l) > 0 && m.r.Intn(2) == 0 {
			v := clone(l[m.r.Intn(len(l))])
			if m.r.Intn(5) == 0 {
				return m.bent(v)
			}
			return v
		}
	}
	return m.any(t)
}

func (m *maker) any(t reflect.Type) reflect.Value {
	v := reflect.New(t).Elem()
	switch t.Kind() {
	case reflect.Int, reflect.Int64, reflect.Int32:
		v.SetInt(m.number())
	case reflect.Uint8, reflect.Uint32, reflect.Uint64:
		v.SetUint(uint64(m.number()))
	case reflect.Bool:
		v.SetBool(m.r.Intn(2) == 0)
	case reflect.String:
		v.SetString(m.text())
	case reflect.Slice:
		for range m.r.Intn(5) {
			v.Set(reflect.Append(v, m.value(t.Elem())))
		}
	case reflect.Array:
		for i := range v.Len() {
			if m.r.Intn(2) == 0 {
				v.Index(i).Set(m.value(t.Elem()))
			}
		}
	case reflect.Struct:
		for i := range v.NumField() {
			v.Field(i).Set(m.value(t.Field(i).Type))
		}
	}
	return v
}

// bent is a value something of which is another one.
func (m *maker) bent(v reflect.Value) reflect.Value {
	switch {
	case v.Kind() == reflect.Struct:
		f := v.Field(m.r.Intn(v.NumField()))
		f.Set(m.bent(f))
		return v
	case v.Kind() == reflect.Slice && v.Len() > 0 && m.r.Intn(3) == 0:
		return v.Slice(0, m.r.Intn(v.Len()))
	case v.Kind() == reflect.Slice && (v.Len() == 0 || m.r.Intn(3) == 0):
		return reflect.Append(v, m.value(v.Type().Elem()))
	case v.Kind() == reflect.Slice || v.Kind() == reflect.Array:
		e := v.Index(m.r.Intn(v.Len()))
		e.Set(m.bent(e))
		return v
	}
	return m.any(v.Type())
}

// clone is a value that shares nothing with another one.
func clone(v reflect.Value) reflect.Value {
	out := reflect.New(v.Type()).Elem()
	out.Set(v)
	switch v.Kind() {
	case reflect.Slice:
		if v.IsNil() {
			return out
		}
		out.Set(reflect.MakeSlice(v.Type(), v.Len(), v.Len()))
		for i := range v.Len() {
			out.Index(i).Set(clone(v.Index(i)))
		}
	case reflect.Array:
		for i := range v.Len() {
			out.Index(i).Set(clone(v.Index(i)))
		}
	case reflect.Struct:
		for i := range v.NumField() {
			out.Field(i).Set(clone(v.Field(i)))
		}
	}
	return out
}

// memory puts where the elements of a value's lists stand.
func memory(v reflect.Value, at map[uintptr]bool) {
	switch v.Kind() {
	case reflect.Slice:
		for i := range v.Len() {
			at[v.Index(i).Addr().Pointer()] = true
			memory(v.Index(i), at)
		}
	case reflect.Array:
		for i := range v.Len() {
			memory(v.Index(i), at)
		}
	case reflect.Struct:
		for i := range v.NumField() {
			memory(v.Field(i), at)
		}
	}
}

func places(l []reflect.Value) map[uintptr]bool {
	at := map[uintptr]bool{}
	for _, v := range l {
		memory(v, at)
	}
	return at
}

// goods puts values that may be.
func (m *maker) goods(values ...any) {
	for _, x := range values {
		v := reflect.ValueOf(x)
		m.good[v.Type()] = append(m.good[v.Type()], v)
	}
}

// keep puts what was answered, to be handed in later.
func (m *maker) keep(l []reflect.Value) {
	for _, v := range l {
		switch v.Kind() {
		case reflect.String:
			if v.Len() < 5000 && len(m.told) < 300 {
				m.told = append(m.told, v.String())
			}
		case reflect.Struct, reflect.Slice:
			if old := m.met[v.Type()]; len(old) < maxPool {
				m.met[v.Type()] = append(old, v)
			} else {
				old[m.r.Intn(maxPool)] = v
			}
		}
	}
}

func begun(t *testing.T) *maker {
	t.Helper()
	m := &maker{r: rand.New(rand.NewSource(1)), good: map[reflect.Type][]reflect.Value{}, met: map[reflect.Type][]reflect.Value{}}
	m.texts = []string{"", "x", "m", "/", "/a", "/bank", "/d/x", "a", "..", strings.Repeat("\x00", 128), strings.Repeat("z", 128), strings.Repeat("n", 64), "1d 0w 0m 0y", "2000-01-01 00:00", "12", "-5", "root/", "root/00000001", "pack/", strings.Repeat("a", 64), "start:\njal r0, start\ntext a \"x\"\nroom b 5\n", "volume 28 8\nprog /e sys 0\nboot 4 5 /e\nrun 5\nstate", num.Row("a", "b", "c"), "hibx\x00\x00\x00\x00\x01\x00\x00\x00\x00\x00abcd"}
	v, _ := progs.Disk(120, 12, "bank", "sh", "cat")
	v, n, _ := fs.Create(v, "/a", 3)
	v, _ = fs.Write(v, n, 0, strings.Repeat("q", 1500))
	v, _ = fs.SetAttr(v, n, "a", "b")
	v, _, e := fs.Mkdir(v, "/d", 1)
	for _, init := range []string{"/bank", "/sh"} {
		x, f := machine.New(api.Config{Frames: 32, Quantum: 5, Init: init}, v)
		x, g := machine.Feed(x, "m 1 2 3\ny\ncat\nxx", false)
		x, _ = machine.Run(x, 300)
		_, tape, h := record.Run(x, []api.Input{{At: 3, Data: "s\n"}}, 60)
		a, k := agent.Start(agent.New(api.Chan{Machine: "m"}, 0), x, 3)
		if e+f+g+h+k != api.OK {
			t.Fatal(e, f, g, h, k)
		}
		m.goods(x, image.Of(x), tape, a, agent.Pump(a, x, 999))
	}
	b, l, e := vault.New(api.Store{Left: -1}, api.Key{1}, strings.Repeat("n", 64), 50, api.Policy{Days: 2})
	b, f := vault.Admit(b, api.Chan{Machine: "m"})
	b, name, g := vault.Put(b, "some data")
	s := api.Snap{Machine: "m", N: 1, Pages: 1, Blocks: 1, Chunks: [3][]string{{name}}}
	b, h := vault.Commit(b, s)
	if e+f+g+h != api.OK {
		t.Fatal(e, f, g, h)
	}
	m.goods(v, b, l[:3], b.Store, b.Ring, b.Keys, b.Root, s, b.Root.Policy, b.Root.Refs)
	m.texts = append(m.texts, name)
	return m
}

// tooLong tells whether a call may take long, as it should.
func tooLong(name string, args []reflect.Value) bool {
	return name == "machine.Run" && args[1].Int() > 1000 || name == "record.Run" && args[2].Int() > 1000
}

func call(f reflect.Value, args []reflect.Value) []reflect.Value {
	if f.Type().IsVariadic() {
		return f.CallSlice(args)
	}
	return f.Call(args)
}

func equal(a, b []reflect.Value) bool {
	return slices.EqualFunc(a, b, func(x, y reflect.Value) bool { return reflect.DeepEqual(x.Interface(), y.Interface()) })
}

// R1, R3, R5
func TestRules(t *testing.T) {
	m := begun(t)
	names := slices.Sorted(maps.Keys(funcs))
	for range calls {
		name := names[m.r.Intn(len(names))]
		f := reflect.ValueOf(funcs[name])
		var args, before []reflect.Value
		for i := range f.Type().NumIn() {
			args = append(args, m.value(f.Type().In(i)))
			before = append(before, clone(args[i]))
		}
		if tooLong(name, args) {
			continue
		}
		out := call(f, args)
		if !equal(args, before) {
			t.Fatal(name, "changes what it is given")
		}
		given := places(args)
		for at := range places(out) {
			if given[at] {
				t.Fatal(name, "answers what shares with what it is given")
			}
		}
		if m.r.Intn(4) == 0 && !equal(out, call(f, args)) {
			t.Fatal(name, "answers otherwise")
		}
		m.keep(out)
	}
}
