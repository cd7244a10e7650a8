package run

import (
	"runnel/api"
	"runnel/lines"
)

// source gives the lines of texts, one at a time. A text is cut only when its lines are wanted, as a run may end long ahead of it.
type source struct {
	texts []string
	lines []string // what is left of the text that was cut last
}

// open answers the texts of a job's inputs, and whether one of them is missing.
func open(inputs []string, job api.Job) (texts []string, missing bool) {
	for _, name := range inputs {
		if name == standard {
			texts = append(texts, job.Input)
			continue
		}
		text, found := find(job.Files, name)
		texts = append(texts, text)
		missing = missing || !found
	}
	return texts, missing
}

// next answers the next line; false, if there is none any more.
func (s *source) next() (string, bool) {
	for len(s.lines) == 0 {
		if len(s.texts) == 0 {
			return "", false
		}
		s.lines = lines.Cut(s.texts[0])
		s.texts = s.texts[1:]
	}
	line := s.lines[0]
	s.lines = s.lines[1:]
	return line, true
}
