package machine

import "runnel/api"

// Step makes ticks, as many as the fuel allows.
func (m *Machine) Step(fuel int) int {
	if m == nil {
		return 0
	}
	state := api.Done
run:
	for made := 0; !m.ended; made++ {
		switch {
		case made >= fuel:
			state = api.Spent
			break run
		case m.wantsLine() && !m.lines.Ready():
			state = api.Hungry
			break run
		case m.reads() && m.lines.Last():
			m.end(api.OK)
			continue run
		case m.ticks == api.MaxTicks:
			m.end(api.ErrTicks)
			continue run
		}
		m.ticks++
		if e := m.tick(); e != api.OK {
			m.end(e)
		}
	}
	return state
}

// end ends the run.
func (m *Machine) end(e api.Errno) {
	m.ended, m.err = true, e
}

// reads tells whether the next tick is the beginning of a cycle that reads a line.
func (m *Machine) reads() bool {
	return m.next == beginning && !m.keeps
}

// wantsLine tells whether it must be known ahead of the next tick whether a line comes. With n and N it must be, even if they aren't for this line: whether they are is found out in the tick itself.
func (m *Machine) wantsLine() bool {
	switch m.next {
	case beginning:
		return m.reads()
	case len(m.ops):
		return false
	}
	name := m.ops[m.next].Name
	return name == 'n' || name == 'N'
}

// tick makes one tick.
func (m *Machine) tick() api.Errno {
	switch m.next {
	case beginning:
		m.beginCycle()
		return api.OK
	case len(m.ops):
		return m.endCycle()
	}
	return m.command()
}

// beginCycle reads a line, but behind a D that has left something.
func (m *Machine) beginCycle() {
	if !m.keeps {
		m.space, _ = m.lines.Next()
		m.marked = false
	}
	m.keeps = false
	m.next = 0
}

// command does what the next command says, if it is for this line.
func (m *Machine) command() api.Errno {
	c := &m.ops[m.next]
	chosen, off, e := m.picker.Ask(m.next, m.lines.Number(), m.lines.Last(), m.space)
	if e != api.OK {
		return e
	}
	m.next++
	if chosen {
		return m.do(c, off)
	}
	if c.Name == '{' {
		m.next = c.jump
	}
	return api.OK
}

// endCycle prints what the cycle has left, and what was queued.
func (m *Machine) endCycle() api.Errno {
	if !m.quiet && !m.silent {
		if e := m.printLine(m.space); e != api.OK {
			return e
		}
	}
	if e := m.putOut(); e != api.OK {
		return e
	}
	if m.quits {
		m.end(api.OK)
	}
	m.silent = false
	m.next = beginning
	return api.OK
}
