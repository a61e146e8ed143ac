package image

import (
	"slices"

	"hibernacle/api"
	"hibernacle/num"
)

// fault is what is thrown where bytes aren't laid out as an image's.
type fault struct{ e api.Errno }

func need(ok bool) {
	if !ok {
		panic(fault{e: api.ErrForm})
	}
}

// cursor takes the texts of a row, one by one.
type cursor struct{ left []string }

func row(b string) *cursor {
	l, e := num.Texts(b)
	need(e == api.OK)
	return &cursor{left: l}
}

func (c *cursor) text() string {
	need(len(c.left) > 0)
	s := c.left[0]
	c.left = c.left[1:]
	return s
}

// sized takes a text of so many bytes.
func (c *cursor) sized(n int) string {
	s := c.text()
	need(len(s) == n)
	return s
}

func (c *cursor) number() int {
	n, ok := num.Int(c.text())
	need(ok)
	return int(n)
}

func (c *cursor) bytes(n int) uint64 { return num.Get(c.sized(n)) }

func (c *cursor) flag() bool {
	s := c.text()
	need(s == yes || s == no)
	return s == yes
}

func (c *cursor) end() { need(len(c.left) == 0) }

// laidOut is the machine that an image tells, if its Rest is laid out as one's; whether it may be isn't asked.
func laidOut(x api.Image) (m api.Machine, e api.Errno) {
	defer func() {
		if r := recover(); r != nil {
			f, ok := r.(fault)
			if !ok {
				panic(r)
			}
			m, e = api.Machine{}, f.e
		}
	}()
	c := row(x.Rest)
	need(c.text() == restMagic)
	m.Frames = slices.Clone(x.Frames)
	m.Clock = c.bytes(longSize)
	m.Quantum, m.Cur, m.Left, m.Next = c.number(), c.number(), c.number(), c.number()
	m.Init, m.NewPipe = c.text(), c.number()
	m.In, m.End, m.Told = c.text(), c.flag(), c.bytes(longSize)
	m.Drive = api.Drive{Blocks: slices.Clone(x.Blocks), Left: c.number()}
	m.Drive.Pending, m.Dirty = c.writes(), c.writes()
	for _, b := range row(c.text()).left {
		p := row(b)
		m.Pipes = append(m.Pipes, api.Pipe{Id: p.number(), Data: p.text()})
		p.end()
	}
	for _, b := range row(c.text()).left {
		m.Procs = append(m.Procs, row(b).proc())
	}
	c.end()
	return m, api.OK
}

func (c *cursor) writes() []api.Write {
	var l []api.Write
	for _, b := range row(c.text()).left {
		w := row(b)
		l = append(l, api.Write{Block: w.number(), Data: w.text()})
		w.end()
	}
	return l
}

// proc takes a process, which is all that is left.
func (c *cursor) proc() api.Proc {
	p := api.Proc{Pid: c.number(), Parent: c.number(), State: c.number()}
	cpu := c.sized(wordSize * (len(p.Cpu.R) + 1))
	for i := range p.Cpu.R {
		p.Cpu.R[i] = uint32(num.Get(cpu[wordSize*i : wordSize*(i+1)]))
	}
	p.Cpu.PC = uint32(num.Get(cpu[wordSize*len(p.Cpu.R):]))
	space := c.sized(pteSize * len(p.Space))
	for i := range p.Space {
		p.Space[i] = page(space[pteSize*i], space[pteSize*i+1])
	}
	fds := c.sized(fdSize * len(p.Fds))
	for i := range p.Fds {
		b := fds[fdSize*i : fdSize*(i+1)]
		p.Fds[i] = api.Fd{Kind: int(b[0]), N: int(num.Get(b[1 : 1+longSize])), Pos: int(num.Get(b[1+longSize:]))}
	}
	p.Mask, p.Code = c.flag(), uint32(c.bytes(wordSize))
	p.Why, p.N = c.number(), c.bytes(longSize)
	c.end()
	return p
}

func page(kind, frame byte) api.Pte {
	need(kind <= writePage && (kind != noPage || frame == 0))
	return api.Pte{Is: kind != noPage, Write: kind == writePage, Frame: int(frame)}
}
