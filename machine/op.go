package machine

import (
	"runnel/api"
	"runnel/matcher"
)

// op is a command, with where it leads, and with the BRE of an s that has one of its own.
type op struct {
	api.Command
	jump int
	re   *matcher.Matcher
}

// read answers the commands of a program, and the rows that choose their lines.
func read(program []api.Op) ([]op, []api.Row, api.Errno) {
	ops := make([]op, len(program))
	rows := make([]api.Row, len(program))
	for i, given := range program {
		c := given.Command
		re, e := ownBRE(c)
		if e != api.OK {
			return nil, nil, e
		}
		ops[i] = op{Command: c, jump: given.Jump, re: re}
		rows[i] = api.Row{A: c.A, B: c.B, Not: c.Not}
	}
	return ops, rows, api.OK
}

// ownBRE answers the BRE of an s; none, if it is empty.
func ownBRE(c api.Command) (*matcher.Matcher, api.Errno) {
	if c.Re == "" {
		return nil, api.OK
	}
	re, fault := matcher.New(c.Re)
	return re, fault.E
}
