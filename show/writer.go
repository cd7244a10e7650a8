package show

import (
	"strconv"
	"strings"

	"runnel/api"
	"runnel/template"
)

// writer gathers commands as they are written.
type writer struct {
	strings.Builder
	stuck bool // texts were met for which no delimiter is left
}

// command writes a command and a newline.
func (w *writer) command(c api.Command) {
	w.address(c.A)
	if c.B.Kind != api.ANone {
		w.WriteByte(',')
		w.address(c.B)
	}
	if c.Not {
		w.WriteByte('!')
	}
	w.WriteByte(c.Name)
	w.rest(c)
	w.WriteByte('\n')
}

// address writes an address, if it is there.
func (w *writer) address(a api.Address) {
	switch a.Kind {
	case api.ALine:
		w.WriteString(strconv.Itoa(a.Line))
	case api.ALast:
		w.WriteByte('$')
	case api.AMatch:
		if !isFree('/', a.Re) {
			w.WriteByte('\\')
		}
		w.between(a.Re)
	}
}

// rest writes what belongs to a command, by its name.
func (w *writer) rest(c api.Command) {
	switch c.Name {
	case 'a', 'i', 'c':
		w.WriteString("\\\n")
		w.WriteString(escaped(strings.TrimSuffix(c.Text, "\n"), "\\\n"))
	case ':', 'b', 't':
		w.word(c.Label)
	case 'r', 'w':
		w.word(c.File)
	case 's':
		w.substitution(c)
	case 'y':
		w.between(escaped(c.From, "\\n"), escaped(c.To, "\\n"))
	}
}

// word writes a blank and a text, if it isn't empty.
func (w *writer) word(text string) {
	if text != "" {
		w.WriteByte(' ')
		w.WriteString(text)
	}
}

// substitution writes what belongs to s.
func (w *writer) substitution(c api.Command) {
	// Parts that were read refer to no group that can't be written.
	replacement, _ := template.Text(c.Parts)
	w.between(c.Re, replacement)
	if c.Nth != 1 {
		w.WriteString(strconv.Itoa(c.Nth))
	}
	if c.All {
		w.WriteByte('g')
	}
	if c.Print {
		w.WriteByte('p')
	}
	if c.File != "" {
		w.WriteByte('w')
		w.word(c.File)
	}
}

// between writes texts with a delimiter ahead of the first of them and behind each.
func (w *writer) between(texts ...string) {
	delim, found := delimiter(texts...)
	if !found {
		w.stuck = true
		return
	}
	w.WriteByte(delim)
	for _, text := range texts {
		w.WriteString(text)
		w.WriteByte(delim)
	}
}

// escaped answers a text with two backslashes for each one in it, and each newline exchanged.
func escaped(text, newline string) string {
	// Backslashes come first, for what stands for a newline has one of its own.
	return strings.ReplaceAll(strings.ReplaceAll(text, "\\", "\\\\"), "\n", newline)
}
