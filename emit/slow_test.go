package emit

import (
	"math/rand"
	"reflect"
	"strings"
	"testing"

	"runnel/api"
	"runnel/check"
	"runnel/script"
)

// A second builder: it looks for each thing of each op from the beginning.

func slowBuild(text string) (api.Program, api.Fault) {
	commands, quiet, fault := script.Parse(text)
	if fault.E != api.OK {
		return api.Program{}, fault
	}
	if fault := check.Check(commands); fault.E != api.OK {
		return api.Program{}, fault
	}
	program := api.Program{Quiet: quiet}
	for i, c := range commands {
		if name := c.File; name != "" && c.Name != 'r' && !strings.Contains("\n"+strings.Join(program.Files, "\n")+"\n", "\n"+name+"\n") {
			program.Files = append(program.Files, name)
		}
		if len(program.Files) > 16 {
			return api.Program{}, api.Fault{E: api.ErrFull, At: c.At}
		}
		op := api.Op{Command: c, Jump: slowJump(commands, i), Slot: -1}
		if c.A.Kind != 0 && c.B.Kind != 0 {
			op.Slot = program.Slots
			program.Slots++
		}
		program.Ops = append(program.Ops, op)
	}
	return program, api.Fault{}
}

// slowJump answers where a command leads.
func slowJump(commands []api.Command, number int) int {
	switch c := commands[number]; c.Name {
	case '{':
		depth := 0
		for i := number; ; i++ {
			switch commands[i].Name {
			case '{':
				depth++
			case '}':
				depth--
			}
			if depth == 0 {
				return i
			}
		}
	case 'b', 't':
		for i, other := range commands {
			if c.Label != "" && other.Name == ':' && other.Label == c.Label {
				return i
			}
		}
		return len(commands)
	}
	return 0
}

// sameProgram compares programs, for which nil and empty lists are the same.
func sameProgram(a, b api.Program) bool {
	for _, p := range []*api.Program{&a, &b} {
		p.Ops = append([]api.Op{}, p.Ops...)
		p.Files = append([]string{}, p.Files...)
		for i := range p.Ops {
			p.Ops[i].Command.Parts = append([]api.Part{}, p.Ops[i].Command.Parts...)
		}
	}
	return reflect.DeepEqual(a, b)
}

// checkSame holds Build against the second builder.
func checkSame(t *testing.T, text string) api.Errno {
	t.Helper()
	program, fault := Build(text)
	want, wantFault := slowBuild(text)
	if !sameProgram(program, want) || fault != wantFault {
		t.Fatalf("Build(%q) = %+v, %v, want %+v, %v", text, program, fault, want, wantFault)
	}
	return fault.E
}

// Every script of up to six of these pieces.
func TestSmallScripts(t *testing.T) {
	pieces := []string{"{", "}\n", "1,2{", ":a\n", "ba\n", "t\n", "2,$w f\n"}
	var more func(string, int)
	more = func(text string, left int) {
		checkSame(t, text)
		if left == 0 {
			return
		}
		for _, piece := range pieces {
			more(text+piece, left-1)
		}
	}
	more("", 6)
}

// Longer scripts, most of them with blocks that match and labels that are there.
func TestRandomScripts(t *testing.T) {
	chance := rand.New(rand.NewSource(20))
	met := map[api.Errno]int{}
	for range 10000 {
		var text strings.Builder
		if chance.Intn(4) == 0 {
			text.WriteString("#n\n")
		}
		open, labels, shut := 0, 0, chance.Intn(4)
		for range chance.Intn(120) {
			text.WriteString([]string{"", "", "3", "1,2", "$!", "/x/,$!"}[chance.Intn(6)])
			switch chance.Intn(9) {
			case 0, 1:
				text.WriteString("{")
				open++
			case 2, 3:
				text.WriteString("{p\n}\n")
			case 4:
				text.WriteString("w f" + string(rune('a'+chance.Intn(26))) + "\n")
			case 5:
				text.WriteString("s/a/x&/gw f" + string(rune('a'+chance.Intn(26))) + "\n")
			case 6:
				text.WriteString([]string{"b", "t"}[chance.Intn(2)] + strings.Repeat("l", chance.Intn(4)) + "\n")
			default:
				text.WriteString("p\n")
			}
			if open > 0 && chance.Intn(3) < shut {
				text.WriteString("}\n")
				open--
			}
			if labels < 3 && chance.Intn(8) == 0 {
				labels++
				text.WriteString(":" + strings.Repeat("l", labels) + "\n")
			}
		}
		met[checkSame(t, text.String()+strings.Repeat("}", open))]++
	}
	for _, e := range []api.Errno{api.OK, api.ErrTooBig, api.ErrLabel, api.ErrFull} {
		if met[e] < 100 {
			t.Errorf("the error %d was met %d times", e, met[e])
		}
	}
}
