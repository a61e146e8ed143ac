package sys

import (
	"hibernacle/api"
	"hibernacle/cache"
	"hibernacle/exe"
	"hibernacle/fs"
	"hibernacle/proc"
)

const (
	noFile   = 255
	maxFiles = 65535
	beyond   = 1 << 31

	sigKill  = 9
	sigEnd   = 15
	codeBase = 256
)

func (c *call) spawn() {
	io := c.a[2]
	path := c.text(io <= maxFiles)
	in, out := c.passed(io%256), c.passed(io/256)
	v := cache.View(c.m)
	n, e := fs.Find(v, path)
	c.must(e)
	b, e := fs.Read(v, n, 0, api.MaxFile)
	c.must(e)
	x, e := exe.Of(b)
	c.must(e)
	next, pid, e := proc.Spawn(c.m, x, c.m.Cur, in, out)
	c.must(e)
	c.m = next
	c.answer(uint32(pid))
}

// passed is the open file that a child gets.
func (c *call) passed(fd uint32) api.Fd {
	if fd == noFile {
		return api.Fd{}
	}
	f, _ := c.opened(fd)
	return f
}

func (c *call) wait() {
	c.need(c.a[0] < beyond, api.ErrNone)
	next, pid, code, e := proc.Reap(c.m, c.m.Cur, int(c.a[0]))
	if e == api.ErrBusy {
		c.waitFor(api.ForChild, uint64(c.a[0]))
		return
	}
	c.must(e)
	c.m = next
	c.answerTwo(uint32(pid), code)
}

func (c *call) kill() {
	pid, sig := int(c.a[0]), c.a[1]
	c.need(sig == sigKill || sig == sigEnd, api.ErrArg)
	i, ok := proc.Find(c.m, pid)
	c.need(ok && (c.m.Procs[i].State == api.Ready || c.m.Procs[i].State == api.Waits), api.ErrNone)
	if sig == sigKill || !c.m.Procs[i].Mask {
		c.m = proc.Die(c.m, pid, codeBase+sig)
		if pid == c.m.Cur {
			return
		}
	}
	c.answer(0)
}

func (c *call) sleep() {
	c.answer(0)
	if c.a[0] != 0 {
		p := c.caller()
		p.State, p.Why, p.N = api.Waits, api.ForTime, c.m.Clock+uint64(c.a[0])
	}
}

func (c *call) grow() {
	c.need(c.a[0] < beyond, api.ErrLimit)
	next, at, e := proc.Grow(c.m, c.m.Cur, int(c.a[0]))
	c.must(e)
	c.m = next
	c.answer(uint32(at))
}
