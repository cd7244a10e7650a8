package emit

import "runnel/api"

// layJumps lays down where the jumps of a program lead. What they lead to may stand behind them, so each is kept as a function until all places are known.
func layJumps(ops []api.Op) {
	// No : has the empty label, so that it can stand for the program's end.
	labels := map[string]int{"": len(ops)}
	ends := map[int]int{}
	var open []int
	var later []func()
	for i := range ops {
		op := &ops[i]
		switch op.Command.Name {
		case '{':
			open = append(open, i)
			later = append(later, func() { op.Jump = ends[i] })
		case '}':
			ends[open[len(open)-1]] = i
			open = open[:len(open)-1]
		case ':':
			labels[op.Command.Label] = i
		case 'b', 't':
			later = append(later, func() { op.Jump = labels[op.Command.Label] })
		}
	}
	for _, lay := range later {
		lay()
	}
}
