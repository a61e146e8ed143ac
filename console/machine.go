package console

import (
	"strings"

	"hibernacle/api"
	"hibernacle/asm"
	"hibernacle/cache"
	"hibernacle/exe"
	"hibernacle/fs"
	"hibernacle/machine"
	"hibernacle/num"
	"hibernacle/record"
	"hibernacle/resize"
	"hibernacle/state"
)

func dec(n int) string { return num.Dec(int64(n)) }

// said is a line of words.
func said(words ...string) []string { return []string{strings.Join(words, blank)} }

func (s *script) doVolume(a args) []string {
	v, e := fs.Make(a.numbers[0], a.numbers[1])
	must(e)
	s.volume, s.hasVolume = v, true
	return said(ok)
}

func (s *script) doProg(a args) []string {
	x, e, _ := asm.Make(a.text)
	must(e)
	b, e := exe.Bytes(x)
	must(e)
	return s.doFile(args{words: a.words, text: b})
}

func (s *script) doFile(a args) []string {
	v, n, e := fs.Create(s.volume, a.words[0], 0)
	must(e)
	v, e = fs.Write(v, n, 0, a.text)
	must(e)
	s.volume = v
	return said(ok)
}

// goOn makes a machine the script's, unless there is an error.
func (s *script) goOn(m api.Machine, e api.Errno) []string {
	must(e)
	s.machine, s.hasMachine = m, true
	return said(ok)
}

func (s *script) doBoot(a args) []string {
	return s.goOn(machine.New(api.Config{Frames: a.numbers[0], Quantum: a.numbers[1], Init: a.words[0]}, s.volume))
}

func (s *script) doFeed(a args) []string { return s.goOn(machine.Feed(s.machine, a.text, false)) }

func (s *script) doEnd(a args) []string { return s.goOn(machine.Feed(s.machine, "", true)) }

func (s *script) doRun(a args) []string {
	need(a.numbers[0] <= maxSteps)
	m, told := machine.Run(s.machine, a.numbers[0])
	s.machine = m
	return said("told", telling(told))
}

func (s *script) doPower(a args) []string { return s.goOn(machine.Crash(s.machine, a.numbers)) }

func (s *script) doState(a args) []string {
	m := s.machine
	return said("state", num.Dec(int64(m.Clock)), dec(len(m.Procs)), dec(len(state.Free(m))), num.Dec(int64(m.Told)))
}

func (s *script) doLs(a args) []string { return fs.Walk(cache.View(s.machine)) }

func (s *script) doCat(a args) []string {
	v := cache.View(s.machine)
	n, e := fs.Find(v, a.words[0])
	must(e)
	b, e := fs.Read(v, n, 0, api.MaxFile)
	must(e)
	return said("text", telling(b))
}

func (s *script) doResize(a args) []string {
	return s.goOn(resize.Machine(s.machine, a.numbers[0], a.numbers[1]))
}

func (s *script) doTape(a args) []string {
	need(a.numbers[0] <= maxSteps)
	m, t, e := record.Run(s.machine, nil, a.numbers[0])
	must(e)
	s.machine, s.tape, s.hasTape = m, t, true
	return said("taped", dec(a.numbers[0]))
}
