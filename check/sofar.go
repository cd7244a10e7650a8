package check

import (
	"strings"

	"runnel/api"
)

// names are the names that commands have.
const names = "{}abcdDgGhHilnNpPqrstwxy=:"

// sofar is what the commands that were gone through leave for those behind them.
type sofar struct {
	open   []int               // the places of the blocks that are open, the outermost first
	labels map[string]struct{} // the labels that stand somewhere
}

// command answers the first error of a command, and remembers what it opens, shuts or labels.
func (s *sofar) command(c *api.Command) api.Errno {
	switch {
	case strings.IndexByte(names, c.Name) < 0:
		return api.ErrCommand
	case isMisaddressed(c):
		return api.ErrAddress
	case c.Name == '{':
		return s.opens(c.At)
	case c.Name == '}':
		return s.shuts()
	case c.Name == ':':
		return s.label(c)
	}
	return api.OK
}

// isMisaddressed tells whether what stands ahead of a command's name may not stand there.
func isMisaddressed(c *api.Command) bool {
	hasA, hasB := c.A.Kind != api.ANone, c.B.Kind != api.ANone
	switch most := mostAddresses(c.Name); {
	case hasB && (most < 2 || !hasA):
		return true
	case most == 0:
		return hasA || c.Not
	}
	return false
}

// mostAddresses answers how many addresses a command may have.
func mostAddresses(name byte) int {
	switch name {
	case ':', '}':
		return 0
	case 'a', 'i', 'r', 'q', '=':
		return 1
	}
	return 2
}

func (s *sofar) opens(at int) api.Errno {
	if len(s.open) == api.MaxBlocks {
		return api.ErrTooBig
	}
	s.open = append(s.open, at)
	return api.OK
}

func (s *sofar) shuts() api.Errno {
	if len(s.open) == 0 {
		return api.ErrBlock
	}
	s.open = s.open[:len(s.open)-1]
	return api.OK
}

func (s *sofar) label(c *api.Command) api.Errno {
	_, twice := s.labels[c.Label]
	if c.Label == "" || len(c.Label) > api.MaxLabel || twice {
		return api.ErrLabel
	}
	s.labels[c.Label] = struct{}{}
	return api.OK
}

// unknown tells the first command that asks for a label that there isn't.
func (s *sofar) unknown(list []api.Command) api.Fault {
	for i := range list {
		c := &list[i]
		if c.Name != 'b' && c.Name != 't' || c.Label == "" {
			continue
		}
		if _, known := s.labels[c.Label]; !known {
			return api.Fault{E: api.ErrLabel, At: c.At}
		}
	}
	return api.Fault{}
}
