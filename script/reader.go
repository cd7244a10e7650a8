package script

import (
	"strings"

	"runnel/api"
	"runnel/matcher"
	"runnel/scan"
)

// reader goes through a script from the front; at the first fault it gives up.
type reader struct {
	text string
	at   int
}

// ended tells whether the script ends here.
func (r *reader) ended() bool {
	return r.at == len(r.text)
}

// meets tells whether one of some bytes stands here.
func (r *reader) meets(bytes string) bool {
	return !r.ended() && strings.IndexByte(bytes, r.text[r.at]) >= 0
}

// blanks goes past blanks.
func (r *reader) blanks() {
	r.at = scan.Blanks(r.text, r.at)
}

// commands reads all commands.
func (r *reader) commands() []api.Command {
	var list []api.Command
	for r.comes() {
		list = append(list, r.command())
	}
	return list
}

// comes goes past what stands between commands, comments too, and tells whether a command follows.
func (r *reader) comes() bool {
	for {
		switch {
		case r.ended():
			return false
		case r.meets(" \t\n;"):
			r.at++
		case r.meets("#"):
			_, r.at = scan.Line(r.text, r.at)
		default:
			return true
		}
	}
}

// command reads a command.
func (r *reader) command() api.Command {
	var c api.Command
	c.A, c.B = r.addresses()
	r.blanks()
	if r.meets("!") {
		c.Not = true
		r.at++
		r.blanks()
	}
	if r.ended() {
		giveUp(api.ErrCommand, r.at)
	}
	c.At, c.Name = r.at, r.text[r.at]
	r.at++
	r.rest(&c)
	return c
}

// delimiter takes the byte that stands around texts; if it can't be one, that is the given error.
func (r *reader) delimiter(e api.Errno, at int) byte {
	if r.ended() || r.meets("\n\\") {
		giveUp(e, at)
	}
	delim := r.text[r.at]
	r.at++
	return delim
}

// until reads a piece up to its delimiter; a fault is told at a place of the command's or the address's.
func (r *reader) until(delim byte, lines bool, at int) string {
	piece, next, e := scan.Until(r.text, r.at, delim, lines)
	need(e, at)
	r.at = next
	return piece
}

// groups answers how many groups a BRE has, which must have no fault.
func groups(re string, at int) int {
	m, fault := matcher.New(re)
	need(fault.E, at)
	return m.Groups()
}
