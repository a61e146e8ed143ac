package console

import (
	"strings"

	"hibernacle/agent"
	"hibernacle/api"
	"hibernacle/catalog"
	"hibernacle/collect"
	"hibernacle/hash"
	"hibernacle/hold"
	"hibernacle/machine"
	"hibernacle/num"
	"hibernacle/policy"
	"hibernacle/rehearse"
	"hibernacle/restore"
	"hibernacle/saved"
	"hibernacle/scrub"
	"hibernacle/server"
	"hibernacle/single"
	"hibernacle/vault"
)

const (
	allCalls   = -1
	pumped     = 4
	maxCollect = 200
)

// keyOf is the key of a word.
func keyOf(word string) api.Key { return api.Key(hash.Sum(word)) }

// noiseOf is the noise of a word.
func noiseOf(word string) string {
	p, q := hash.Sum(word, "1"), hash.Sum(word, "2")
	return string(p[:]) + string(q[:])
}

func (s *script) doStore(a args) []string {
	p, e := policy.Of(a.text)
	must(e)
	word := a.words[0]
	v, l, e := vault.New(api.Store{Left: allCalls}, keyOf(word), noiseOf(word), int64(a.numbers[0]), p)
	must(e)
	s.vault, s.shares, s.hasVault = v, l, true
	return said(ok)
}

// called makes a vault that a call answered the script's, also with an error.
func (s *script) called(v api.Vault, e api.Errno) []string {
	s.vault = v
	must(e)
	return said(ok)
}

func (s *script) doAdmit(a args) []string {
	end := api.Chan{Machine: a.words[0], Key: keyOf(a.words[1])}
	answer := s.called(vault.Admit(s.vault, end))
	s.agent, s.hasAgent = agent.New(end, 0), true
	return answer
}

func (s *script) doStart(a args) []string {
	next, e := agent.Start(s.agent, s.machine, int64(a.numbers[0]))
	must(e)
	s.agent = next
	return said(ok)
}

func (s *script) doGo(a args) []string {
	need(a.numbers[0] <= maxSteps)
	var told strings.Builder
	for range a.numbers[0] {
		told.WriteString(s.goOnce())
	}
	return said("went", dec(s.agent.Stage), dec(s.agent.Acked), telling(told.String()))
}

// goOnce is one step of all: of the machine, of what is taken of it, and of what is sent.
func (s *script) goOnce() string {
	now, told := machine.Step(s.machine)
	s.agent = agent.Pump(agent.Went(s.agent, s.machine, now), now, pumped)
	s.machine = now
	next, frame, sends := agent.Send(s.agent)
	if !sends {
		return told
	}
	var answer string
	s.vault, answer = server.Do(s.vault, next.Chan.Machine, frame)
	// Whatever comes is taken; what isn't an answer changes nothing.
	s.agent, _ = agent.Take(next, answer)
	return told
}

func (s *script) doTick(a args) []string { return s.called(vault.Tick(s.vault, int64(a.numbers[0]))) }

func (s *script) doHold(a args) []string {
	r, e := hold.Set(s.vault.Root, a.words[0], a.numbers[0], int64(a.numbers[1]))
	must(e)
	return s.called(saved.Root(s.vault, r))
}

func (s *script) doLose(a args) []string {
	for _, i := range a.numbers {
		need(i < api.Shelves)
	}
	for _, i := range a.numbers {
		s.vault.Store.Shelves[i] = api.Shelf{}
	}
	return said(ok)
}

func (s *script) doOpen(a args) []string {
	var l []api.Share
	for _, i := range a.numbers {
		need(i >= 1 && i <= len(s.shares))
		l = append(l, s.shares[i-1])
	}
	v, e := vault.Open(s.vault.Store, l)
	if e != api.OK {
		s.vault.Store = v.Store
	}
	must(e)
	s.vault = v
	return said(ok)
}

func (s *script) doRotate(a args) []string {
	v, l, e := vault.Rotate(s.vault, keyOf(a.words[0]), noiseOf(a.words[0]))
	answer := s.called(v, e)
	s.shares = l
	return answer
}

func (s *script) doCollect(a args) []string {
	count := 0
	for range maxCollect {
		v, more, e := collect.Step(s.vault)
		s.called(v, e)
		if !more {
			break
		}
		count++
	}
	return said("cleared", dec(count))
}

func (s *script) doScrub(a args) []string {
	v, lost, e := scrub.All(s.vault)
	s.called(v, e)
	return said("lost", dec(len(lost)))
}

func (s *script) doSnaps(a args) []string {
	var l []string
	for _, x := range s.vault.Root.Refs {
		l = append(l, said("snap", x.Machine, dec(x.N), num.Dec(x.At), num.Dec(x.Until))...)
	}
	return l
}

// image is the image of a vault's snapshot, of which a line tells the machine and the number.
func (s *script) image(a args) api.Image {
	v, x, e := restore.Image(s.vault, a.words[0], a.numbers[0])
	s.called(v, e)
	return x
}

func (s *script) doFiles(a args) []string {
	files, e := catalog.Of(s.image(a))
	must(e)
	var l []string
	for _, f := range files {
		l = append(l, said("file", dec(f.Kind), dec(f.Size), f.Path)...)
	}
	return l
}

func (s *script) doCopy(a args) []string {
	b, e := single.File(s.image(a), a.words[1])
	must(e)
	return said("text", telling(b))
}

func (s *script) doRestore(a args) []string {
	v, m, e := restore.Machine(s.vault, a.words[0], a.numbers[0])
	s.called(v, e)
	return s.goOn(m, e)
}

func (s *script) doRehearse(a args) []string {
	v, verdict := rehearse.Run(s.vault, a.words[0], a.numbers[0], s.tape)
	s.vault = v
	return said(rehearse.Text(verdict))
}
