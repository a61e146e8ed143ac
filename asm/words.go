package asm

import (
	"strconv"
	"strings"

	"hibernacle/api"
	"hibernacle/isa"
)

// instruction takes an instruction's line in: its shape is that of the line that layer 10 tells.
func (m *maker) instruction(name string) {
	op, ok := isa.Op(name)
	m.need(ok, api.ErrForm)
	x := item{ins: api.Ins{Op: op}, how: asAddress}
	if goesThere(name) {
		x.how = asWords
	}
	shape, _ := tokens(isa.Text(x.ins))
	registers := []*uint8{&x.ins.A, &x.ins.B, &x.ins.C}
	for _, t := range shape[1:] {
		switch t.kind {
		case isWord:
			*registers[0] = m.register()
			registers = registers[1:]
		case isNumber:
			m.number(&x)
		default:
			m.next(t.kind)
		}
	}
	m.end()
	_, e := isa.Enc(x.ins)
	m.need(e == api.OK, api.ErrRange)
	m.put(x)
}

// number takes an instruction's number in, or the name that stands for it.
func (m *maker) number(x *item) {
	if len(m.left) > 0 && m.left[0].kind == isWord {
		x.named, x.name = true, m.next(isWord).text
		return
	}
	// What doesn't fit is kept out of every operation's range.
	x.ins.Imm = int32(min(max(m.next(isNumber).n, minValue), -minValue-1))
}

// goesThere tells whether an operation's number is how many words to go.
func goesThere(name string) bool {
	switch name {
	case "beq", "bne", "blt", "bltu", "jal":
		return true
	}
	return false
}

// program is what all lines made.
func (m *maker) program() api.Exe {
	end := m.lay()
	var x api.Exe
	for i, t := range m.items {
		m.line = t.line
		x.Text = append(x.Text, m.encode(t, i))
	}
	x.Data = string(m.data)
	for _, p := range m.names {
		if p.of == ofRoom {
			x.Room = int(end) - int(m.dataBegin()) - len(m.data)
		}
	}
	if p, ok := m.names["start"]; ok && p.of == ofIns {
		x.Entry = uint32(p.at)
	}
	return x
}

func (m *maker) dataBegin() int64 { return up(wordSize*int64(len(m.items)), dataAlign) }

// lay gives the rooms their places, and tells where the last one ends.
func (m *maker) lay() int64 {
	end := m.dataBegin() + int64(len(m.data))
	for _, r := range m.rooms {
		at := up(end, wordSize)
		m.names[r.name] = place{of: ofRoom, at: at}
		end = at + r.size
	}
	return end
}

// encode is the word of the i-th item.
func (m *maker) encode(t item, i int) uint32 {
	if t.raw {
		return t.word
	}
	if t.named {
		n, ok := stands(m.address(t.name), t.how, int64(i))
		m.need(ok, api.ErrRange)
		t.ins.Imm = n
	}
	w, e := isa.Enc(t.ins)
	m.need(e == api.OK, api.ErrRange)
	return w
}

func (m *maker) address(name string) int64 {
	p, ok := m.names[name]
	m.need(ok, api.ErrName)
	if p.of == ofData {
		return m.dataBegin() + p.at
	}
	return p.at
}

// stands is the number for which an address stands in the i-th instruction, and whether there is one.
func stands(at int64, how int, i int64) (int32, bool) {
	switch how {
	case asWords:
		at -= wordSize * (i + 1)
		return int32(at / wordSize), at%wordSize == 0
	case asUpper:
		return int32(at >> 16), true
	case asLower:
		return int32(at & 0xffff), true
	}
	return int32(at), true
}

// List is a text whose program x is.
func List(x api.Exe) string {
	pad := int(up(int64(len(x.Data)), wordSize)) - len(x.Data)
	if !listed(x) || x.Room > 0 && x.Room < pad {
		return ""
	}
	var b strings.Builder
	for i, w := range x.Text {
		if x.Entry != 0 && x.Entry == uint32(wordSize*i) {
			b.WriteString("start:\n")
		}
		b.WriteString(wordLine(w) + "\n")
	}
	if len(x.Data) > 0 {
		b.WriteString("text data " + quote(x.Data) + "\n")
	}
	if x.Room != 0 {
		b.WriteString("room room " + strconv.Itoa(x.Room-pad) + "\n")
	}
	return b.String()
}

func listed(x api.Exe) bool {
	if x.Room < 0 || x.Room > maxRoom || len(x.Text) > maxListWords || len(x.Data) > maxListData {
		return false
	}
	return x.Entry == 0 || x.Entry%wordSize == 0 && x.Entry/wordSize < uint32(len(x.Text))
}

func wordLine(w uint32) string {
	if x, ok := isa.Dec(w); ok {
		return isa.Text(x)
	}
	return "raw " + strconv.FormatUint(uint64(w), 10)
}
