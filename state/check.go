package state

import (
	"slices"

	"hibernacle/api"
	"hibernacle/drive"
	"hibernacle/geom"
	"hibernacle/wal"
)

const (
	maxQuantum = 1000
	maxNumber  = 1000000000
	maxInit    = 128
	maxPipes   = 64
)

// Check tells why a machine may not be.
func Check(m api.Machine) api.Errno {
	checks := []func(m api.Machine) api.Errno{checkNumbers, checkFrames, checkProcs, checkPipes, checkTexts, checkVolume}
	for _, check := range checks {
		if e := check(m); e != api.OK {
			return e
		}
	}
	return api.OK
}

func checkNumbers(m api.Machine) api.Errno {
	ok := m.Quantum >= 1 && m.Quantum <= maxQuantum && m.Left >= 0 && m.Left <= m.Quantum && m.Cur >= 0 &&
		m.Next >= 1 && m.Next <= maxNumber && m.NewPipe >= 1 && m.NewPipe <= maxNumber
	if !ok {
		return api.ErrRange
	}
	return api.OK
}

func checkFrames(m api.Machine) api.Errno {
	if len(m.Frames) < 1 || len(m.Frames) > api.MaxFrames {
		return api.ErrLimit
	}
	if slices.ContainsFunc(m.Frames, func(f string) bool { return len(f) != api.PageSize }) {
		return api.ErrForm
	}
	return api.OK
}

func checkProcs(m api.Machine) api.Errno {
	if len(m.Procs) > api.MaxProcs {
		return api.ErrLimit
	}
	met := map[int]bool{}
	last := 0
	for _, p := range m.Procs {
		if p.Pid <= last || p.Pid >= m.Next || !mayBe(m, p) || !pagesMayBe(m, p, met) {
			return api.ErrForm
		}
		last = p.Pid
	}
	return api.OK
}

func lives(p api.Proc) bool { return p.State == api.Ready || p.State == api.Waits }

// mayBe tells whether a process may be, but for its pages.
func mayBe(m api.Machine, p api.Proc) bool {
	if !lives(p) && p.State != api.Dead || p.Cpu.R[0] != 0 || !whyMayBe(p) || p.Code != 0 && p.State != api.Dead {
		return false
	}
	isParent := func(x api.Proc) bool { return x.Pid == p.Parent && lives(x) }
	if !(p.Parent == 0 && lives(p)) && !slices.ContainsFunc(m.Procs, isParent) {
		return false
	}
	for _, f := range p.Fds {
		if f != (api.Fd{}) && (p.State == api.Dead || !fdMayBe(m, f)) {
			return false
		}
	}
	return true
}

// whyMayBe tells whether what a process waits for may be.
func whyMayBe(p api.Proc) bool {
	if p.State == api.Waits {
		return p.Why >= api.ForInput && p.Why <= api.ForTime
	}
	return p.Why == 0 && p.N == 0
}

func fdMayBe(m api.Machine, f api.Fd) bool {
	switch f.Kind {
	case api.FdIn, api.FdOut:
		return f.N == 0 && f.Pos == 0
	case api.FdFile:
		return f.N >= 1 && f.N <= api.MaxInodes && f.Pos >= 0 && f.Pos <= api.MaxFile
	case api.FdFrom, api.FdTo:
		return f.Pos == 0 && place(m, f.N) >= 0
	}
	return false
}

// pagesMayBe tells whether a process's pages may be; met are the frames of others ahead.
func pagesMayBe(m api.Machine, p api.Proc, met map[int]bool) bool {
	for _, x := range p.Space {
		if !x.Is {
			if x != (api.Pte{}) {
				return false
			}
			continue
		}
		if p.State == api.Dead || x.Frame < 0 || x.Frame >= len(m.Frames) || met[x.Frame] {
			return false
		}
		met[x.Frame] = true
	}
	return true
}

func checkPipes(m api.Machine) api.Errno {
	if len(m.Pipes) > maxPipes {
		return api.ErrLimit
	}
	last := 0
	for _, p := range m.Pipes {
		if p.Id <= last || p.Id >= m.NewPipe || len(p.Data) > api.PipeSize {
			return api.ErrForm
		}
		last = p.Id
	}
	return api.OK
}

func checkTexts(m api.Machine) api.Errno {
	if len(m.In) > api.MaxText || len(m.Init) > maxInit {
		return api.ErrLimit
	}
	return api.OK
}

func checkVolume(m api.Machine) api.Errno {
	if e := drive.Check(m.Drive); e != api.OK {
		return e
	}
	v := wal.Home(m.Drive)
	if len(v) == 0 {
		return api.ErrForm
	}
	if len(m.Dirty) > api.MaxTx {
		return api.ErrLimit
	}
	last := -1
	for _, w := range m.Dirty {
		if w.Block <= last || w.Block >= len(v) || len(w.Data) != api.BlockSize {
			return api.ErrForm
		}
		last = w.Block
		v[w.Block] = w.Data
	}
	_, e := geom.Of(v)
	return e
}
