package emit

import (
	"reflect"
	"slices"
	"strconv"
	"strings"
	"testing"
	"unsafe"

	"runnel/api"
	"runnel/script"
)

// read answers the commands of a script that has no fault of its own.
func read(t *testing.T, text string) ([]api.Command, bool) {
	t.Helper()
	list, quiet, fault := script.Parse(text)
	if fault != (api.Fault{}) {
		t.Fatalf("Parse(%q): %v", text, fault)
	}
	return list, quiet
}

// build answers the program of a script that must have none of Build's faults; its commands must be those of the script.
func build(t *testing.T, text string) api.Program {
	t.Helper()
	program, fault := Build(text)
	if fault != (api.Fault{}) {
		t.Fatalf("Build(%.200q): %v", text, fault)
	}
	commands, quiet := read(t, text)
	if program.Quiet != quiet || len(program.Ops) != len(commands) {
		t.Fatalf("Build(%.200q): Quiet %v, %d ops, want %v, %d", text, program.Quiet, len(program.Ops), quiet, len(commands))
	}
	for i, op := range program.Ops {
		if !reflect.DeepEqual(op.Command, commands[i]) {
			t.Fatalf("Build(%.200q): op %d is of %+v, want %+v", text, i, op.Command, commands[i])
		}
	}
	return program
}

// checkJumps holds the jumps of a program's ops against places.
func checkJumps(t *testing.T, text string, want ...int) {
	t.Helper()
	var got []int
	for _, op := range build(t, text).Ops {
		got = append(got, op.Jump)
	}
	if !slices.Equal(got, want) {
		t.Errorf("Build(%q): jumps %v, want %v", text, got, want)
	}
}

// checkSlots holds the slots of a program's ops, and how many there are, against numbers.
func checkSlots(t *testing.T, text string, slots int, want ...int) {
	t.Helper()
	var got []int
	program := build(t, text)
	for _, op := range program.Ops {
		got = append(got, op.Slot)
	}
	if !slices.Equal(got, want) || program.Slots != slots {
		t.Errorf("Build(%q): slots %v, %d, want %v, %d", text, got, program.Slots, want, slots)
	}
}

// checkFiles holds the files of a program against names.
func checkFiles(t *testing.T, text string, want ...string) {
	t.Helper()
	if got := build(t, text).Files; !slices.Equal(got, want) {
		t.Errorf("Build(%q): files %q, want %q", text, got, want)
	}
}

// checkFault holds Build against a fault, with nothing beside it.
func checkFault(t *testing.T, text string, e api.Errno, at int) {
	t.Helper()
	program, fault := Build(text)
	if program.Quiet || len(program.Ops) != 0 || program.Slots != 0 || len(program.Files) != 0 || fault != (api.Fault{E: e, At: at}) {
		t.Errorf("Build(%.80q) = %v, %v, want %d at %d", text, program, fault, e, at)
	}
}

func TestTheChaptersExamples(t *testing.T) {
	const text = "1,3{s/a/b/w f\n}\n:x;bx;b"
	checkJumps(t, text, 2, 0, 0, 0, 3, 6)
	checkSlots(t, text, 1, 0, -1, -1, -1, -1, -1)
	checkFiles(t, text, "f")
	checkFault(t, "bx", api.ErrLabel, 0)
}

func TestTheEmptyProgram(t *testing.T) {
	for _, text := range []string{"", "# x", "\n;;"} {
		checkJumps(t, text)
		checkSlots(t, text, 0)
		checkFiles(t, text)
	}
}

func TestQuiet(t *testing.T) {
	for text, quiet := range map[string]bool{"#n": true, "#n\np": true, "p": false, "#n p": false, "p\n#n": false, "": false} {
		if program := build(t, text); program.Quiet != quiet {
			t.Errorf("Build(%q): Quiet %v", text, program.Quiet)
		}
	}
}

// Jumps.

func TestJumpsOfBlocks(t *testing.T) {
	checkJumps(t, "{}", 1, 0)
	checkJumps(t, "{p}", 2, 0, 0)
	checkJumps(t, "p;{p;p;};p", 0, 4, 0, 0, 0, 0)
	checkJumps(t, "{{}}", 3, 2, 0, 0)
	checkJumps(t, "{{p;};{p;p;};};{}", 8, 3, 0, 0, 7, 0, 0, 0, 0, 10, 0)
	checkJumps(t, "{p;{p;{p};p};p}", 10, 0, 8, 0, 6, 0, 0, 0, 0, 0, 0)
	checkJumps(t, "1,2!{p\n}\n$!{x\n}", 2, 0, 0, 5, 0, 0)
	deep := api.MaxBlocks
	var want []int
	for i := range deep {
		want = append(want, 2*deep-1-i)
	}
	checkJumps(t, strings.Repeat("{", deep)+strings.Repeat("}", deep), append(want, make([]int, deep)...)...)
}

func TestJumpsToLabels(t *testing.T) {
	for _, name := range []string{"b", "t"} {
		checkJumps(t, name, 1)
		checkJumps(t, name+"\np", 2, 0)
		checkJumps(t, "p;"+name+";p;"+name, 0, 4, 0, 4)
		checkJumps(t, name+"x\n:x", 1, 0)
		checkJumps(t, ":x\n"+name+"x", 0, 0)
		checkJumps(t, "p\n:x\n"+name+"x", 0, 0, 1)
		checkJumps(t, name+"y;:x;"+name+"x;p;:y;"+name+"y;"+name+"x", 4, 0, 1, 0, 0, 4, 1)
		// Into a block, out of one, and from one into another.
		checkJumps(t, name+"x;{:x\n};{"+name+"x\n}", 2, 3, 0, 0, 6, 2, 0)
		checkJumps(t, "{"+name+"x\n};:x", 2, 3, 0, 0)
		checkJumps(t, "{"+name+"\n}", 2, 3, 0)
	}
	checkJumps(t, "bx;tx;b;t;:x", 4, 4, 5, 5, 0)
	// Labels that are much alike.
	long := strings.Repeat("l", api.MaxLabel)
	checkJumps(t, ":"+long+"\n:"+long[1:]+"\n:A\n:a\nb"+long[1:]+";b"+long+";ta;tA", 0, 0, 0, 0, 1, 0, 3, 2)
}

// Each other command has the jump 0, wherever it stands.
func TestOtherCommandsDontJump(t *testing.T) {
	for _, text := range []string{"a\\\nx", "i\\\nx", "c\\\nx", "r f", "w f", "s/a/b/", "y/a/b/", ":l", "=", "d", "D", "g", "G", "h", "H", "l", "n", "N", "p", "P", "q", "x"} {
		checkJumps(t, text, 0)
		checkJumps(t, "{p\n"+text+"\n}", 3, 0, 0, 0)
	}
}

// Slots.

func TestSlots(t *testing.T) {
	checkSlots(t, "p", 0, -1)
	checkSlots(t, "1p;$!p;/x/p;!p", 0, -1, -1, -1, -1)
	checkSlots(t, "1,2p", 1, 0)
	checkSlots(t, "1,2!p;p;/x/,$p;3p;$,1p;5,5p", 4, 0, -1, 1, -1, 2, 3)
	checkSlots(t, "p;1,2{3,4p;5p;6,7{p}};8,9d", 4, -1, 0, 1, -1, 2, -1, -1, -1, 3)
	checkSlots(t, "1,2s/a/b/;1,2y/a/b/;1,2b;1,2t;1,2w f\n1,2c\\\nx", 6, 0, 1, 2, 3, 4, 5)
	many := strings.Repeat("1,2p\n", api.MaxScript/5)
	program := build(t, many)
	for i, op := range program.Ops {
		if op.Slot != i {
			t.Fatalf("the slot of %d is %d", i, op.Slot)
		}
	}
	if program.Slots != api.MaxScript/5 {
		t.Errorf("%d slots", program.Slots)
	}
}

// Files.

func TestFiles(t *testing.T) {
	checkFiles(t, "p")
	checkFiles(t, "r f")
	checkFiles(t, "s/a/b/;s/w/w/;b w;:w")
	checkFiles(t, "w f", "f")
	checkFiles(t, "s/a/b/w f", "f")
	checkFiles(t, "w b\nw a\ns/a/b/w c\nw a\ns/a/b/gpw b\nw d", "b", "a", "c", "d")
	checkFiles(t, "r x\nw f\nr f\nw y", "f", "y")
	checkFiles(t, "w f\nw F\nw f \nw ff", "f", "F", "f ", "ff")
	checkFiles(t, "1,2!{w in\n}\n$w out", "in", "out")
	longest := strings.Repeat("n", api.MaxName)
	checkFiles(t, "w "+longest+"\nw "+longest[1:], longest, longest[1:])
}

// writing answers a script that writes so many unlike files, by w and by s in turns, and their names.
func writing(count int) (string, []string) {
	var text strings.Builder
	var names []string
	for i := range count {
		name := "f" + strconv.Itoa(i)
		names = append(names, name)
		text.WriteString([]string{"w ", "s/a/b/w "}[i%2] + name + "\n")
	}
	return text.String(), names
}

func TestAsManyFilesAsMayBe(t *testing.T) {
	text, names := writing(api.MaxFiles)
	checkFiles(t, text, names...)
	// The same ones again, and files that are read, don't count.
	checkFiles(t, text+text, names...)
	checkFiles(t, text+"r other\np\n"+text+"r another", names...)
	checkFault(t, text+"w other", api.ErrFull, len(text))
	checkFault(t, text+"s/a/b/w other", api.ErrFull, len(text))
	checkFault(t, text+text+"p;1,2!s/a/b/w other", api.ErrFull, 2*len(text)+6)
	checkFault(t, text+"p;$w other\nw third\nw f0", api.ErrFull, len(text)+3)
	more, _ := writing(api.MaxFiles + 9)
	checkFault(t, more, api.ErrFull, len(text))
	checkFault(t, "#n\n"+more, api.ErrFull, 3+len(text))
}

// Faults.

func TestFaultsOfTheScript(t *testing.T) {
	checkFault(t, "k", api.ErrCommand, 0)
	checkFault(t, "1", api.ErrCommand, 1)
	checkFault(t, "p;0p", api.ErrAddress, 2)
	checkFault(t, "#n\np p", api.ErrText, 5)
	checkFault(t, `s/a/\1/`, api.ErrBack, 0)
	checkFault(t, strings.Repeat(" ", api.MaxScript+1), api.ErrTooBig, 0)
	checkFault(t, "s/a/b/w "+strings.Repeat("n", api.MaxName+1), api.ErrName, 0)
}

func TestFaultsOfTheList(t *testing.T) {
	checkFault(t, "p;{p", api.ErrBlock, 2)
	checkFault(t, "p;}", api.ErrBlock, 2)
	checkFault(t, "1,2q", api.ErrAddress, 3)
	checkFault(t, ":a;:a", api.ErrLabel, 3)
	checkFault(t, "p;tx", api.ErrLabel, 2)
	checkFault(t, strings.Repeat("{", api.MaxBlocks+1), api.ErrTooBig, api.MaxBlocks)
}

// Faults of the script come ahead of those of the list, and those ahead of too many files, wherever they stand.
func TestTheOrderOfFaults(t *testing.T) {
	many, _ := writing(api.MaxFiles + 1)
	checkFault(t, "};k", api.ErrCommand, 2)
	checkFault(t, "{bx;1,2q\n0p", api.ErrAddress, 9)
	checkFault(t, many+"k", api.ErrCommand, len(many))
	checkFault(t, many+"}", api.ErrBlock, len(many))
	checkFault(t, many+"bx", api.ErrLabel, len(many))
	checkFault(t, many+"1,2=", api.ErrAddress, len(many)+3)
	checkFault(t, "{"+many, api.ErrBlock, 0)
	checkFault(t, "k\n"+many, api.ErrCommand, 0)
	checkFault(t, many+"};k", api.ErrCommand, len(many)+2)
}

// Memory.

const everything = "1,2{s/a/x&y/w f\ns/b/&&&/w g\n}\n:label\n/re/,\\,r\\,e,b label\na\\\ntext\ny/ab/cd/\nr file\nw h"

// What is answered stays as it is when the bytes that were handed in are written over.
func TestArgumentsAreNotKept(t *testing.T) {
	bytes := []byte(everything)
	program, fault := Build(unsafe.String(&bytes[0], len(bytes)))
	if string(bytes) != everything || fault != (api.Fault{}) {
		t.Fatalf("%q is left, %v", bytes, fault)
	}
	clear(bytes)
	if want := build(t, everything); !reflect.DeepEqual(program, want) || len(program.Ops) != 10 {
		t.Errorf("%+v is left, want %+v", program, want)
	}
}

// fill writes over all lists of a program, behind their lengths too.
func fill(program api.Program) {
	ops := program.Ops[:cap(program.Ops)]
	for i := range ops {
		parts := ops[i].Command.Parts
		for j := range parts[:cap(parts)] {
			parts[:cap(parts)][j] = api.Part{Group: 77, Text: "over"}
		}
		ops[i] = api.Op{Jump: -5, Slot: -5}
	}
	files := program.Files[:cap(program.Files)]
	for i := range files {
		files[i] = "over"
	}
}

func TestListsAreNew(t *testing.T) {
	first, second, want := build(t, everything), build(t, everything), build(t, everything)
	fill(second)
	if !reflect.DeepEqual(first, want) {
		t.Errorf("the first answer is left as %+v", first)
	}
	if again := build(t, everything); !reflect.DeepEqual(again, want) {
		t.Errorf("a later answer is %+v", again)
	}
	// No two lists of parts of one answer share memory.
	for i := range first.Ops {
		parts := first.Ops[i].Command.Parts
		for j := range parts[:cap(parts)] {
			parts[:cap(parts)][j] = api.Part{Group: 77}
		}
		for k := i + 1; k < len(first.Ops); k++ {
			if !reflect.DeepEqual(first.Ops[k], want.Ops[k]) {
				t.Errorf("the parts of %d share memory with those of %d", k, i)
			}
		}
	}
}

// A refused call leaves nothing behind for the next one.
func TestBehindAFault(t *testing.T) {
	want := build(t, everything)
	many, _ := writing(api.MaxFiles + 1)
	for _, text := range []string{"k", "{", "bx", ":label;:label", many} {
		if _, fault := Build(text); fault.E == api.OK {
			t.Errorf("Build(%q) has no fault", text)
		}
		if again := build(t, everything); !reflect.DeepEqual(again, want) {
			t.Errorf("behind %q it is %+v", text, again)
		}
	}
}
