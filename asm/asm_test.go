package asm

import (
	"slices"
	"strconv"
	"strings"
	"testing"

	"hibernacle/api"
	"hibernacle/isa"
)

func words(t *testing.T, l ...api.Ins) []uint32 {
	t.Helper()
	var out []uint32
	for _, x := range l {
		w, e := isa.Enc(x)
		if e != api.OK {
			t.Fatal(x, e)
		}
		out = append(out, w)
	}
	return out
}

func same(a, b api.Exe) bool {
	return slices.Equal(a.Text, b.Text) && a.Data == b.Data && a.Room == b.Room && a.Entry == b.Entry
}

// P11.1
func TestMake(t *testing.T) {
	for text, want := range map[string]api.Exe{
		"":                             {},
		" \t# nothing\n\n":             {},
		"start:\njal r0, start":        {Text: words(t, api.Ins{Op: 29, Imm: -1})},
		"li r1, 65537":                 {Text: words(t, api.Ins{Op: 19, A: 1, Imm: 1}, api.Ins{Op: 16, A: 1, B: 1, Imm: 1})},
		"li r15,-1#x":                  {Text: words(t, api.Ins{Op: 19, A: 15, Imm: 65535}, api.Ins{Op: 16, A: 15, B: 15, Imm: 65535})},
		"lw r1,-0004 ( r2 )":           {Text: words(t, api.Ins{Op: 20, A: 1, B: 2, Imm: -4})},
		"raw 4294967295\nraw-0":        {Text: []uint32{4294967295, 0}},
		"text a\"x\\\"\\\\\\n\\x0f#\"": {Data: "x\"\\\n\x0f#"},
		"text a \"x\"\nword b -2\nword c 4294967295": {Data: "x\x00\x00\x00\xfe\xff\xff\xff\xff\xff\xff\xff"},
		"room a 0":                                       {},
		"text a \"12345\"\nroom b 0":                     {Data: "12345", Room: 3},
		"text a \"12345\"\nroom b 1\nroom c 2":           {Data: "12345", Room: 9},
		"sys 1\nstart: \nsys 2\nother:":                  {Text: words(t, api.Ins{Op: 31, Imm: 1}, api.Ins{Op: 31, Imm: 2}), Entry: 4},
		"sys 1\nstart:":                                  {Text: words(t, api.Ins{Op: 31, Imm: 1}), Entry: 4},
		"sys 1\nword start 7":                            {Text: words(t, api.Ins{Op: 31, Imm: 1}), Data: "\x07\x00\x00\x00"},
		"beq r1, r2, end\nadd r3,r4,r5\nend:":            {Text: words(t, api.Ins{Op: 25, A: 1, B: 2, Imm: 1}, api.Ins{Op: 1, A: 3, B: 4, C: 5})},
		"lw r1, b(r0)\ntext a \"x\"\nword b 1":           {Text: words(t, api.Ins{Op: 20, A: 1, Imm: 132}), Data: "x\x00\x00\x00\x01\x00\x00\x00"},
		"la r2, c\ntext a \"x\"\nroom b 70000\nx:":       {},
		"la r2, c\ntext a \"x\"\nroom b 65536\nroom c 1": {Text: words(t, api.Ins{Op: 19, A: 2, Imm: 1}, api.Ins{Op: 16, A: 2, B: 2, Imm: 132}), Data: "x", Room: 65540},
		"add:\ntext:\nr1: \njal r1, r1":                  {Text: words(t, api.Ins{Op: 29, A: 1, Imm: -1})},
	} {
		x, e, line := Make(text)
		if strings.Contains(text, "70000") {
			if e != api.ErrRange || line != 3 {
				t.Errorf("%q: %d %d", text, e, line)
			}
			continue
		}
		if e != api.OK || line != 0 || !same(x, want) {
			t.Errorf("%q: %v %d %d", text, x, e, line)
		}
	}
}

// P11.1: the first error, and its line.
func TestMakeWrong(t *testing.T) {
	for text, want := range map[string]struct {
		e    api.Errno
		line int
	}{
		strings.Repeat("\n", 401):              {api.ErrLimit, 0},
		strings.Repeat("\n", 400) + "x":        {api.ErrLimit, 0},
		"#" + strings.Repeat("x", 65536):       {api.ErrLimit, 0},
		strings.Repeat("\n", 399) + "x":        {api.ErrForm, 400},
		"add r1, r2":                           {api.ErrForm, 1},
		"add r1, r2, r3 r4":                    {api.ErrForm, 1},
		"add r1, r2, 3":                        {api.ErrForm, 1},
		"add r1, r2, r16":                      {api.ErrForm, 1},
		"add r01, r2, r3":                      {api.ErrForm, 1},
		"addi r1, r16, 99999":                  {api.ErrForm, 1},
		"sys 1\nnothing r1":                    {api.ErrForm, 2},
		"5":                                    {api.ErrForm, 1},
		"sys 1\r":                              {api.ErrForm, 1},
		"sys -":                                {api.ErrForm, 1},
		"text a \"x":                           {api.ErrForm, 1},
		"text a \"\\xAB\"":                     {api.ErrForm, 1},
		"text a \"\\x1\"":                      {api.ErrForm, 1},
		"text a \"\t\"":                        {api.ErrForm, 1},
		"text a \"\\":                          {api.ErrForm, 1},
		"li r1, name":                          {api.ErrForm, 1},
		"la r1, 5":                             {api.ErrForm, 1},
		"a: sys 1":                             {api.ErrForm, 1},
		"addi r1, r1, 32768":                   {api.ErrRange, 1},
		"andi r1, r1, -1":                      {api.ErrRange, 1},
		"sys 65536":                            {api.ErrRange, 1},
		"sys 99999999999999999999999999999999": {api.ErrRange, 1},
		"li r1, 4294967296":                    {api.ErrRange, 1},
		"li r1, -2147483649":                   {api.ErrRange, 1},
		"raw -1":                               {api.ErrRange, 1},
		"room a 65537":                         {api.ErrRange, 1},
		"a:\nroom a 65537":                     {api.ErrRange, 2},
		"word a 4294967296":                    {api.ErrRange, 1},
		"a:\ntext a \"\"":                      {api.ErrTwice, 2},
		"jal r1, none\nx y":                    {api.ErrForm, 2},
		"sys 1\njal r1, none":                  {api.ErrName, 2},
		"la r1, none":                          {api.ErrName, 1},
		"word x 1\ntext y \"a\"\ntext z \"\"\njal r1, z":  {api.ErrRange, 4},
		"room x 65536\nlw r1, y(r0)\nroom y 1":            {api.ErrRange, 2},
		"jal r1, y\nlw r1, z(r0)\nroom y 0\nroom x 65536": {api.ErrName, 2},
	} {
		if x, e, line := Make(text); e != want.e || line != want.line || !same(x, api.Exe{}) {
			t.Errorf("%.30q: %d %d", text, e, line)
		}
	}
}

// P11.1
func TestList(t *testing.T) {
	x := api.Exe{Text: append(words(t, api.Ins{Op: 20, A: 1, B: 2, Imm: -4}), 0), Data: "a\"\\\n\x00", Room: 4, Entry: 4}
	if got := List(x); got != "lw r1, -4(r2)\nstart:\nraw 0\ntext data \"a\\\"\\\\\\n\\x00\"\nroom room 1\n" {
		t.Errorf("%q", got)
	}
	for _, bad := range []api.Exe{
		{Room: -1}, {Room: 65537}, {Entry: 4}, {Text: []uint32{0}, Entry: 4}, {Text: []uint32{0, 0}, Entry: 2}, {Text: make([]uint32, 151)},
		{Data: strings.Repeat("x", 8001)}, {Data: "x", Room: 2}, {Text: []uint32{0}, Entry: 1<<32 - 4},
	} {
		if got := List(bad); got != "" {
			t.Errorf("%q", got)
		}
	}
	if List(api.Exe{}) != "" || List(api.Exe{Data: "x", Room: 3}) != "text data \"x\"\nroom room 0\n" {
		t.Error("edges")
	}
}

// P11.2
func TestThereAndBack(t *testing.T) {
	n := uint32(9)
	var all []uint32
	for range 150 {
		n = n*1664525 + 1013904223
		all = append(all, n)
	}
	every := make([]byte, 256)
	for i := range every {
		every[i] = byte(i)
	}
	for _, x := range []api.Exe{
		{}, {Text: all, Entry: 4 * 149}, {Text: all[:77], Data: string(every), Room: 65536}, {Data: strings.Repeat("\xff", 8000), Room: 1}, {Data: "xyz", Room: 1}, {Room: 65536}, {Text: all[:3], Entry: 8},
	} {
		got, e, line := Make(List(x))
		if e != api.OK || !same(got, x) {
			t.Error(len(x.Text), e, line)
		}
	}
}

// P11.3
func TestNamesOrNumbers(t *testing.T) {
	text := "start:\nbeq r1, r2, NAME\nbne r1, r2, NAME\nblt r1, r2, NAME\nbltu r1, r2, NAME\njal r1, NAME\nend:\n"
	for name, at := range map[string]int{"start": 0, "end": 5} {
		var l []string
		for i, s := range strings.Split(text, "\n") {
			l = append(l, strings.ReplaceAll(s, "NAME", strconv.Itoa(at-i)))
		}
		a, e, _ := Make(strings.ReplaceAll(text, "NAME", name))
		b, f, _ := Make(strings.Join(l, "\n"))
		if e != api.OK || f != api.OK || !same(a, b) {
			t.Error(name, e, f)
		}
	}
	a, e, _ := Make("addi r1, r0, d\nlb r1, d(r3)\nsys d\njalr r1, d(r0)\nlui r1, d\nandi r1, r2, d\nword c 1\nword d 2")
	b, f, _ := Make("addi r1, r0, 132\nlb r1, 132(r3)\nsys 132\njalr r1, 132(r0)\nlui r1, 132\nandi r1, r2, 132\nword c 1\nword d 2")
	if e != api.OK || f != api.OK || !same(a, b) {
		t.Error(e, f)
	}
}

// P11.1: the edges of tokens, numbers and sizes.
func TestEdges(t *testing.T) {
	for _, text := range []string{
		"li r0, -2147483648", "li r15, 4294967295", "word w -2147483648", "word w 4294967295", "raw 4294967295", "room r 65536", "aA0zZ9_:\n_:\nA:\nz:\nZ:", "text t \" ~!\"",
		strings.Repeat("\n", 399) + "sys 1\n", "#" + strings.Repeat("x", 65535),
	} {
		if _, e, line := Make(text); e != api.OK {
			t.Errorf("%.40q: %d %d", text, e, line)
		}
	}
	for _, text := range []string{"text t \"\\", "text t \"\\x", "text t \"\\x1", "text t \"\\x1\"", "text t \"\\x1g\"", "text t \"\\xg1\"", "text t \"\\t\"", "text t \"\x7f\"", "text t \"\x1f\"", "@:", "[:", "`:", "{:", "sys", "add", "addi r1, r2,", "jal", "li", "word w"} {
		if _, e, line := Make(text); e != api.ErrForm || line != 1 {
			t.Errorf("%q: %d %d", text, e, line)
		}
	}
	if x, _, _ := Make("text t \"\\x00\\xff\\x9a\""); x.Data != "\x00\xff\x9a" {
		t.Errorf("%q", x.Data)
	}
	if got := List(api.Exe{Data: " ~\x1f\x7f"}); got != "text data \" ~\\x1f\\x7f\"\n" {
		t.Errorf("%q", got)
	}
	// A name of data is no beginning; neither is a room's.
	for _, text := range []string{"sys 1\nsys 2\ntext a \"12345678\"\nword start 7", "sys 1\nsys 2\nroom start 7"} {
		if x, e, _ := Make(text); e != api.OK || x.Entry != 0 {
			t.Error(x.Entry, e)
		}
	}
	if x, _, _ := Make("li r3, 305419896"); !slices.Equal(x.Text, words(t, api.Ins{Op: 19, A: 3, Imm: 0x1234}, api.Ins{Op: 16, A: 3, B: 3, Imm: 0x5678})) {
		t.Error(x.Text)
	}
}
