package record

import (
	"hibernacle/api"
	"hibernacle/num"
)

const (
	magic = "hibt"
	yes   = "1"
	no    = "0"
	parts = 6
)

// rows is a row of rows, one for each of a list.
func rows[T any](l []T, one func(x T) string) string {
	var texts []string
	for _, x := range l {
		texts = append(texts, one(x))
	}
	return num.Row(texts...)
}

// read is the list whose row of rows this is.
func read[T any](b string, one func(texts []string) (T, bool)) ([]T, bool) {
	texts, e := num.Texts(b)
	if e != api.OK {
		return nil, false
	}
	var l []T
	for _, s := range texts {
		parts, e := num.Texts(s)
		if e != api.OK {
			return nil, false
		}
		x, ok := one(parts)
		if !ok {
			return nil, false
		}
		l = append(l, x)
	}
	return l, true
}

func inputRow(x api.Input) string {
	end := no
	if x.End {
		end = yes
	}
	return num.Row(num.Dec(int64(x.At)), x.Data, end)
}

func outputRow(x api.Output) string { return num.Row(num.Dec(int64(x.At)), x.Data) }

func inputOf(l []string) (api.Input, bool) {
	if len(l) != 3 || l[2] != yes && l[2] != no {
		return api.Input{}, false
	}
	at, ok := num.Int(l[0])
	return api.Input{At: uint64(at), Data: l[1], End: l[2] == yes}, ok
}

func outputOf(l []string) (api.Output, bool) {
	if len(l) != 2 {
		return api.Output{}, false
	}
	at, ok := num.Int(l[0])
	return api.Output{At: uint64(at), Data: l[1]}, ok
}

// Bytes is a recording's bytes.
func Bytes(t api.Tape) (string, api.Errno) {
	if !mayBe(t) {
		return "", api.ErrForm
	}
	return num.Row(
		magic, string(t.From[:]), rows(t.Inputs, inputRow), num.Dec(int64(t.Steps)), rows(t.Outputs, outputRow), string(t.To[:]),
	), api.OK
}

// Of is the recording of bytes.
func Of(b string) (api.Tape, api.Errno) {
	l, e := num.Texts(b)
	if e != api.OK {
		return api.Tape{}, e
	}
	if len(l) != parts || l[0] != magic {
		return api.Tape{}, api.ErrForm
	}
	var t api.Tape
	if len(l[1]) != len(t.From) || len(l[5]) != len(t.To) {
		return api.Tape{}, api.ErrForm
	}
	copy(t.From[:], l[1])
	copy(t.To[:], l[5])
	inputs, in := read(l[2], inputOf)
	steps, ok := num.Int(l[3])
	outputs, out := read(l[4], outputOf)
	t.Inputs, t.Steps, t.Outputs = inputs, int(steps), outputs
	if !in || !ok || !out || !mayBe(t) {
		return api.Tape{}, api.ErrForm
	}
	return t, api.OK
}
