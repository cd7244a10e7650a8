package machine

import (
	"strconv"
	"strings"

	"runnel/api"
	"runnel/listing"
	"runnel/subst"
	"runnel/template"
	"runnel/ytab"
)

// do does what a command says to a line that it has chosen; off tells that no range of the command goes on behind the line.
func (m *Machine) do(c *op, off bool) api.Errno {
	switch c.Name {
	case 'b':
		m.next = c.jump
	case 't':
		if m.marked {
			m.marked = false
			m.next = c.jump
		}
	case '=', 'i', 'l', 'p', 'P', 'w':
		return m.write(c)
	case 'a':
		return m.queue.add(thing{text: c.Text})
	case 'r':
		return m.queue.add(thing{text: c.File, isFile: true})
	case 'c':
		return m.change(c, off)
	case 'd':
		m.space = ""
		m.leaveSilently()
	case 'D':
		m.deleteFirst()
	case 'g', 'G', 'h', 'H', 'x', 'y':
		return m.turn(c)
	case 'n':
		return m.takeNext()
	case 'N':
		return m.joinNext()
	case 'q':
		m.leave()
		m.quits = true
	case 's':
		return m.exchange(c)
	}
	return api.OK
}

// leave makes the cycle's end the next tick.
func (m *Machine) leave() {
	m.next = len(m.ops)
}

// leaveSilently likewise, without the print of the pattern space.
func (m *Machine) leaveSilently() {
	m.leave()
	m.silent = true
}

// printLine prints a text and a newline, both or neither.
func (m *Machine) printLine(text string) api.Errno {
	return m.files.Print(text + "\n")
}

// write does the commands that print or write, and change nothing.
func (m *Machine) write(c *op) api.Errno {
	switch c.Name {
	case '=':
		return m.printLine(strconv.Itoa(m.lines.Number()))
	case 'i':
		return m.files.Print(c.Text)
	case 'l':
		return m.printLine(strings.Join(listing.Lines(m.space), "\n"))
	case 'P':
		first, _, _ := strings.Cut(m.space, "\n")
		return m.printLine(first)
	case 'w':
		return m.files.Write(c.File, m.space+"\n")
	}
	return m.printLine(m.space)
}

// change does c: of a range the text is printed once, behind its last line.
func (m *Machine) change(c *op, off bool) api.Errno {
	if c.B.Kind == api.ANone || c.Not || off {
		if e := m.files.Print(c.Text); e != api.OK {
			return e
		}
	}
	m.space = ""
	m.leaveSilently()
	return api.OK
}

// deleteFirst does D. That there was a newline counts, even if nothing stands behind it.
func (m *Machine) deleteFirst() {
	_, m.space, m.keeps = strings.Cut(m.space, "\n")
	m.leaveSilently()
}

// turn does the commands that change the spaces by each other, or byte by byte.
func (m *Machine) turn(c *op) api.Errno {
	switch c.Name {
	case 'g':
		m.space = m.hold
	case 'G':
		return lay(&m.space, m.hold)
	case 'h':
		m.hold = m.space
	case 'H':
		return lay(&m.hold, m.space)
	case 'x':
		m.space, m.hold = m.hold, m.space
	case 'y':
		table, e := ytab.New(c.From, c.To)
		if e != api.OK {
			return e
		}
		m.space = ytab.Apply(table, m.space)
	}
	return api.OK
}

// lay lays a newline and a text behind a space, if there is room for both.
func lay(space *string, text string) api.Errno {
	if len(*space)+1+len(text) > api.MaxSpace {
		return api.ErrSpace
	}
	*space += "\n" + text
	return api.OK
}

// takeNext does n.
func (m *Machine) takeNext() api.Errno {
	if m.lines.Last() {
		m.leave()
		m.quits = true
		return api.OK
	}
	if !m.quiet {
		if e := m.printLine(m.space); e != api.OK {
			return e
		}
	}
	if e := m.putOut(); e != api.OK {
		return e
	}
	m.space, _ = m.lines.Next()
	return api.OK
}

// joinNext does N. A line for which there is no room has been read all the same.
func (m *Machine) joinNext() api.Errno {
	if m.lines.Last() {
		m.leaveSilently()
		m.quits = true
		return api.OK
	}
	if e := m.putOut(); e != api.OK {
		return e
	}
	line, _ := m.lines.Next()
	return lay(&m.space, line)
}

// exchange does s.
func (m *Machine) exchange(c *op) api.Errno {
	m.picker.Use(c.re)
	re := m.picker.Last()
	if re == nil {
		return api.ErrLast
	}
	if template.Refs(c.Parts) > re.Groups() {
		return api.ErrBack
	}
	text, count, e := subst.Do(re, c.Parts, c.Nth, c.All, m.space)
	if e != api.OK || count == 0 {
		return e
	}
	m.space, m.marked = text, true
	if c.Print {
		if e := m.printLine(m.space); e != api.OK {
			return e
		}
	}
	if c.File != "" {
		return m.files.Write(c.File, m.space+"\n")
	}
	return api.OK
}
