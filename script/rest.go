package script

import (
	"runnel/api"
	"runnel/scan"
	"runnel/template"
	"runnel/ytab"
)

// rest reads what belongs to a command, by its name.
func (r *reader) rest(c *api.Command) {
	switch c.Name {
	case '{':
	case 'a', 'i', 'c':
		r.lines(c)
	case ':', 'b', 't':
		r.label(c)
	case 'r', 'w':
		r.file(c)
	case 's':
		r.substitution(c)
	case 'y':
		r.table(c)
		r.end()
	case '}', '=', 'd', 'D', 'g', 'G', 'h', 'H', 'l', 'n', 'N', 'p', 'P', 'q', 'x':
		r.end()
	default:
		giveUp(api.ErrCommand, c.At)
	}
}

// end goes past blanks; then something must come that parts a command from the next.
func (r *reader) end() {
	r.blanks()
	if !r.ended() && !r.meets("\n;}#") {
		giveUp(api.ErrText, r.at)
	}
}

// lines reads the text of a, i and c.
func (r *reader) lines(c *api.Command) {
	text, next, e := scan.Text(r.text, r.at)
	need(e, c.At)
	c.Text, r.at = text, next
}

// label reads a label; b and t may have none.
func (r *reader) label(c *api.Command) {
	c.Label, r.at = scan.Word(r.text, r.at)
	if len(c.Label) > api.MaxLabel || c.Name == ':' && c.Label == "" {
		giveUp(api.ErrLabel, c.At)
	}
}

// file reads a file's name.
func (r *reader) file(c *api.Command) {
	c.File, r.at = scan.Line(r.text, r.at)
	if !scan.Name(c.File) {
		giveUp(api.ErrName, c.At)
	}
}

// substitution reads what belongs to s.
func (r *reader) substitution(c *api.Command) {
	delim := r.delimiter(api.ErrText, c.At)
	c.Re = r.until(delim, false, c.At)
	replacement := r.until(delim, true, c.At)
	known := groups(c.Re, c.At)
	parts, fault := template.Parse(replacement)
	need(fault.E, c.At)
	// An empty BRE stands for the one that was used last: its groups are not known yet.
	if c.Re != "" && template.Refs(parts) > known {
		giveUp(api.ErrBack, c.At)
	}
	c.Parts = parts
	r.flags(c)
	c.Nth = max(c.Nth, 1)
}

// flags reads the flags of s, and to its end.
func (r *reader) flags(c *api.Command) {
	for {
		switch {
		case r.meets("g"):
			r.flag(&c.All)
		case r.meets("p"):
			r.flag(&c.Print)
		case r.meets("0123456789"):
			r.count(c)
		case r.meets("w"):
			r.at++
			r.file(c)
			return
		default:
			r.end()
			return
		}
	}
}

// flag takes a flag that may stand once.
func (r *reader) flag(set *bool) {
	if *set {
		giveUp(api.ErrFlag, r.at)
	}
	*set = true
	r.at++
}

// count reads the number of s; an Nth of 0 tells that there was none so far.
func (r *reader) count(c *api.Command) {
	number, next, e := scan.Number(r.text, r.at)
	if c.Nth != 0 || e != api.OK || number < 1 || number > api.MaxCount {
		giveUp(api.ErrFlag, r.at)
	}
	c.Nth, r.at = number, next
}

// table reads the two texts of y.
func (r *reader) table(c *api.Command) {
	delim := r.delimiter(api.ErrText, c.At)
	c.From = r.side(delim, c.At)
	c.To = r.side(delim, c.At)
	_, e := ytab.New(c.From, c.To)
	need(e, c.At)
}

// side reads one of the two texts of y.
func (r *reader) side(delim byte, at int) string {
	meant, fault := ytab.Piece(r.until(delim, false, at))
	need(fault.E, at)
	return meant
}
