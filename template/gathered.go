package template

import "runnel/api"

// gathered is what was read of a replacement: the parts, and behind them bytes that more may follow, so that they are no part yet.
type gathered struct {
	parts []api.Part
	bytes []byte
}

// plain takes a byte that stands for itself.
func (g *gathered) plain(b byte) {
	g.bytes = append(g.bytes, b)
}

// group takes a reference to a group.
func (g *gathered) group(number int) {
	g.letOut()
	g.parts = append(g.parts, api.Part{Group: number})
}

// escaped takes the byte behind a backslash.
func (g *gathered) escaped(b byte) {
	switch {
	case '0' <= b && b <= '9':
		g.group(int(b - '0'))
	case b == 'n':
		g.plain('\n')
	default:
		g.plain(b)
	}
}

// letOut makes the bytes so far, if there are any, a part.
func (g *gathered) letOut() {
	if len(g.bytes) > 0 {
		g.parts = append(g.parts, api.Part{Group: literal, Text: string(g.bytes)})
		g.bytes = g.bytes[:0]
	}
}
