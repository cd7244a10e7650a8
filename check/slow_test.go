package check

import (
	"math/rand"
	"slices"
	"strings"
	"testing"

	"runnel/api"
)

// A second checker: it remembers nothing, and asks of each command all those ahead of it again.

func slowCheck(list []api.Command) api.Fault {
	for i, c := range list {
		if e := slowError(list[:i], c); e != api.OK {
			return api.Fault{E: e, At: c.At}
		}
	}
	shut := 0
	for i := len(list) - 1; i >= 0; i-- {
		switch list[i].Name {
		case '}':
			shut++
		case '{':
			if shut == 0 {
				return api.Fault{E: api.ErrBlock, At: list[i].At}
			}
			shut--
		}
	}
	for _, c := range list {
		if (c.Name == 'b' || c.Name == 't') && c.Label != "" && countNamed(list, ':', c.Label) == 0 {
			return api.Fault{E: api.ErrLabel, At: c.At}
		}
	}
	return api.Fault{}
}

// countNamed counts the commands with a name and a label.
func countNamed(list []api.Command, name byte, label string) int {
	count := 0
	for _, c := range list {
		if c.Name == name && c.Label == label {
			count++
		}
	}
	return count
}

// slowError answers the error of a command, with those ahead of it.
func slowError(ahead []api.Command, c api.Command) api.Errno {
	if !slices.Contains(allNames, string([]byte{c.Name})) {
		return api.ErrCommand
	}
	addresses := 0
	for _, a := range []api.Address{c.A, c.B} {
		if a.Kind != 0 {
			addresses++
		}
	}
	none, one := strings.ContainsRune(":}", rune(c.Name)), strings.ContainsRune("airq=", rune(c.Name))
	if none && (addresses > 0 || c.Not) || one && addresses > 1 || c.A.Kind == 0 && c.B.Kind != 0 {
		return api.ErrAddress
	}
	open := 0
	for _, other := range ahead {
		if other.Name == '{' {
			open++
		}
		if other.Name == '}' {
			open--
		}
	}
	switch {
	case c.Name == '{' && open+1 > 16:
		return api.ErrTooBig
	case c.Name == '}' && open == 0:
		return api.ErrBlock
	case c.Name == ':' && (c.Label == "" || len(c.Label) > 32 || countNamed(ahead, ':', c.Label) > 0):
		return api.ErrLabel
	}
	return api.OK
}

// checkSame holds Check against the second checker; the commands' places are made unlike.
func checkSame(t *testing.T, list []api.Command) {
	t.Helper()
	for i := range list {
		list[i].At = 100 + i
	}
	if fault, want := Check(list), slowCheck(list); fault != want {
		t.Fatalf("Check(%+v) = %v, want %v", list, fault, want)
	}
}

// telling are commands of which each does something else to a list.
func telling() []api.Command {
	one, two := api.Address{Kind: api.ALine, Line: 1}, api.Address{Kind: api.ALast}
	return []api.Command{
		{Name: '{'}, {Name: '}'}, {Name: 'p'},
		{Name: ':', Label: "a"}, {Name: ':', Label: "b"}, {Name: 'b', Label: "a"}, {Name: 't', Label: "b"}, {Name: 'b'},
		{Name: '{', A: one, B: two, Not: true}, {Name: '}', A: one}, {Name: ':'}, {Name: 'k'}, {Name: 'q', A: one, B: two},
	}
}

// Every list of up to five telling commands.
func TestSmallLists(t *testing.T) {
	commands := telling()
	var list []api.Command
	var more func(int)
	more = func(left int) {
		checkSame(t, list)
		if left == 0 {
			return
		}
		for _, c := range commands {
			list = append(list, c)
			more(left - 1)
			list = list[:len(list)-1]
		}
	}
	more(5)
}

// Lists that are longer, some of which go together; in some of them blocks grow deep.
func TestRandomLists(t *testing.T) {
	commands := telling()
	chance := rand.New(rand.NewSource(19))
	met := map[api.Errno]int{}
	for range 30000 {
		var list []api.Command
		depth := 10 + chance.Intn(12)
		for range chance.Intn(80) {
			switch pick := chance.Intn(200); {
			case pick < 1:
				list = append(list, commands[chance.Intn(len(commands))])
			case pick < 2:
				list = append(list, api.Command{Name: byte(chance.Intn(256)), A: api.Address{Kind: chance.Intn(5)}, B: api.Address{Kind: chance.Intn(2)}, Not: chance.Intn(2) == 0})
			case pick < 4:
				list = append(list, api.Command{Name: ':', Label: strings.Repeat("x", 1+chance.Intn(33))})
			case pick < 6:
				list = append(list, api.Command{Name: "bt"[chance.Intn(2)], Label: strings.Repeat("x", chance.Intn(34))})
			case pick < 60:
				list = append(list, api.Command{Name: 'p'})
			case chance.Intn(20) < depth:
				list = append(list, api.Command{Name: '{'})
			case chance.Intn(4) == 0 || countName(list, '{') > countName(list, '}'):
				list = append(list, api.Command{Name: '}'})
			}
		}
		for chance.Intn(4) > 0 && countName(list, '{') > countName(list, '}') {
			list = append(list, api.Command{Name: '}'})
		}
		checkSame(t, list)
		met[slowCheck(list).E]++
	}
	for _, e := range []api.Errno{api.OK, api.ErrCommand, api.ErrAddress, api.ErrTooBig, api.ErrBlock, api.ErrLabel} {
		if met[e] < 100 {
			t.Errorf("the error %d was met %d times", e, met[e])
		}
	}
}

// countName counts the commands with a name.
func countName(list []api.Command, name byte) int {
	count := 0
	for _, c := range list {
		if c.Name == name {
			count++
		}
	}
	return count
}
