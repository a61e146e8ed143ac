package sys

import (
	"slices"
	"strings"

	"hibernacle/api"
	"hibernacle/cache"
	"hibernacle/fs"
	"hibernacle/inode"
	"hibernacle/mmu"
	"hibernacle/proc"
	"hibernacle/state"
)

const (
	makes     = 1
	empties   = 2
	maxFlags  = makes | empties
	maxPipes  = 64
	lastPipe  = 1000000000
	separator = " "
)

func (c *call) read() {
	f, fd := c.transfer(api.FdIn, api.FdFile, api.FdFrom)
	at, n := c.a[1], int(c.a[2])
	zeros := strings.Repeat("\x00", n)
	_, ok := mmu.Lay(c.m.Frames, c.caller().Space, at, zeros)
	c.need(ok, api.ErrFault)
	if n == 0 {
		c.answer(0)
		return
	}
	var data string
	switch f.Kind {
	case api.FdIn:
		if c.m.In == "" && !c.m.End {
			c.waitFor(api.ForInput, 0)
			return
		}
		size := min(n, len(c.m.In))
		data, c.m.In = c.m.In[:size], c.m.In[size:]
	case api.FdFile:
		var e api.Errno
		data, e = fs.Read(cache.View(c.m), f.N, f.Pos, n)
		c.must(e)
		c.caller().Fds[fd].Pos += len(data)
	case api.FdFrom:
		pipe, _ := state.Pipe(c.m, f.N)
		if _, writers := state.Ends(c.m, f.N); pipe.Data == "" && writers > 0 {
			c.waitFor(api.ForBytes, uint64(f.N))
			return
		}
		c.m, data = state.Take(c.m, f.N, n)
	}
	// It was seen above that there is room for more than this.
	c.m.Frames, _ = mmu.Lay(c.m.Frames, c.caller().Space, at, data)
	c.answer(uint32(len(data)))
}

// transfer is the open file of a read or a write, which must be of one of these kinds, and its number.
func (c *call) transfer(kinds ...int) (api.Fd, int) {
	f, fd := c.opened(c.a[0])
	c.need(c.a[2] <= api.MaxIO, api.ErrArg)
	c.need(slices.Contains(kinds, f.Kind), api.ErrKind)
	return f, fd
}

func (c *call) write() {
	f, fd := c.transfer(api.FdOut, api.FdFile, api.FdTo)
	data := c.memory(c.a[1], c.a[2])
	n := len(data)
	if n == 0 {
		c.answer(0)
		return
	}
	switch f.Kind {
	case api.FdOut:
		c.told = data
		c.m.Told += uint64(n)
	case api.FdFile:
		v, e := fs.Write(cache.View(c.m), f.N, f.Pos, data)
		c.must(e)
		c.keep(v)
		c.caller().Fds[fd].Pos += n
	case api.FdTo:
		readers, _ := state.Ends(c.m, f.N)
		c.need(readers > 0, api.ErrPipe)
		if pipe, _ := state.Pipe(c.m, f.N); len(pipe.Data) >= api.PipeSize {
			c.waitFor(api.ForRoom, uint64(f.N))
			return
		}
		c.m, n = state.Put(c.m, f.N, data)
	}
	c.answer(uint32(n))
}

func (c *call) open() {
	flags := c.a[2]
	path := c.text(flags <= maxFlags)
	free := c.free()
	c.need(len(free) > 0, api.ErrLimit)
	was := cache.View(c.m)
	v := was
	n, e := fs.Find(v, path)
	if e == api.ErrNone && flags&makes != 0 {
		v, n, e = fs.Create(v, path, 0)
		c.must(e)
	} else {
		c.must(e)
		x, e := inode.Get(v, n)
		c.need(e == api.OK && x.Kind == api.IsFile, api.ErrKind)
		if flags&empties != 0 {
			v, e = fs.Cut(v, n, 0)
			c.must(e)
		}
	}
	if !slices.Equal(v, was) {
		c.keep(v)
	}
	c.caller().Fds[free[0]] = api.Fd{Kind: api.FdFile, N: n}
	c.answer(uint32(free[0]))
}

func (c *call) close() {
	_, fd := c.opened(c.a[0])
	c.caller().Fds[fd] = api.Fd{}
	c.m = state.Sweep(c.m)
	c.answer(0)
}

func (c *call) pipe() {
	free := c.free()
	c.need(len(free) >= 2 && len(c.m.Pipes) < maxPipes && c.m.NewPipe < lastPipe, api.ErrLimit)
	var id int
	c.m, id = state.Open(c.m)
	p := c.caller()
	p.Fds[free[0]] = api.Fd{Kind: api.FdFrom, N: id}
	p.Fds[free[1]] = api.Fd{Kind: api.FdTo, N: id}
	c.answerTwo(uint32(free[0]), uint32(free[1]))
}

func (c *call) seek() {
	f, fd := c.opened(c.a[0])
	c.need(f.Kind == api.FdFile, api.ErrKind)
	c.need(c.a[1] <= api.MaxFile, api.ErrRange)
	c.caller().Fds[fd].Pos = int(c.a[1])
	c.answer(c.a[1])
}

func (c *call) remove() {
	path := c.text(true)
	v := cache.View(c.m)
	n, e := fs.Find(v, path)
	c.must(e)
	c.need(!proc.Opened(c.m, n), api.ErrBusy)
	v, e = fs.Remove(v, path)
	c.must(e)
	c.keep(v)
	c.answer(0)
}

func (c *call) size() {
	f, _ := c.opened(c.a[0])
	c.need(f.Kind == api.FdFile, api.ErrKind)
	x, e := inode.Get(cache.View(c.m), f.N)
	c.must(e)
	c.answer(uint32(x.Size))
}

func (c *call) link() {
	names := strings.Split(c.text(true), separator)
	c.need(len(names) == 2, api.ErrForm)
	v, e := fs.Link(cache.View(c.m), names[0], names[1])
	c.must(e)
	c.keep(v)
	c.answer(0)
}
