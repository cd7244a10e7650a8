package machine

import "runnel/api"

// queue holds what is put out at a cycle's end, and how many bytes it has.
type queue struct {
	things []thing
	bytes  int
}

// thing is a text, or a file's name.
type thing struct {
	text   string
	isFile bool
}

// add lays a thing behind the others, if there is room for it.
func (q *queue) add(t thing) api.Errno {
	if q.bytes+len(t.text) > api.MaxSpace {
		return api.ErrSpace
	}
	q.things = append(q.things, t)
	q.bytes += len(t.text)
	return api.OK
}

// putOut prints the queue's things and empties it. If one of them can't be printed, the queue stays whole.
func (m *Machine) putOut() api.Errno {
	for _, t := range m.queue.things {
		text := t.text
		if t.isFile {
			text, _ = m.files.Read(t.text)
		}
		if e := m.files.Print(text); e != api.OK {
			return e
		}
	}
	m.queue = queue{}
	return api.OK
}
