package listing

import (
	"fmt"
	"math/rand"
	"slices"
	"strings"
	"testing"

	"runnel/api"
)

// slowEscapes answers the 256 escapes, as P16.1 writes them down.
func slowEscapes() []string {
	var list []string
	for b := range 256 {
		list = append(list, fmt.Sprintf(`\%03o`, b))
	}
	for b := 32; b <= 126; b++ {
		list[b] = string([]byte{byte(b)})
	}
	for b, letter := range []string{`\a`, `\b`, `\t`, `\n`, `\v`, `\f`, `\r`} {
		list[7+b] = letter
	}
	list['\\'] = `\\`
	return list
}

var escapes = slowEscapes()

// slowLines lays the escapes as P16.2 says, a line as a list of escapes.
func slowLines(text string) []string {
	lines := [][]string{{}}
	for at := range len(text) {
		last := len(lines) - 1
		with := append(lines[last], escapes[text[at]])
		if len(strings.Join(with, "")) > 69 {
			lines = append(lines, []string{escapes[text[at]]})
		} else {
			lines[last] = with
		}
	}
	var list []string
	for i, line := range lines {
		end := `\`
		if i == len(lines)-1 {
			end = "$"
		}
		list = append(list, strings.Join(line, "")+end)
	}
	return list
}

// slowBytes reads a line's escapes, each of which must be one of the 256.
func slowBytes(written string) ([]byte, bool) {
	var bytes []byte
	for written != "" {
		found := slices.IndexFunc(escapes, func(escape string) bool { return strings.HasPrefix(written, escape) })
		if found < 0 {
			return nil, false
		}
		bytes = append(bytes, byte(found))
		written = written[len(escapes[found]):]
	}
	return bytes, true
}

// slowRead reads line by line: each but the last must end in a \ ahead of an escape that has no room, the last one in a $.
func slowRead(list []string) (string, api.Errno) {
	var text []byte
	for i, line := range list {
		end := `\`
		if i == len(list)-1 {
			end = "$"
		}
		written, ends := strings.CutSuffix(line, end)
		bytes, are := slowBytes(written)
		if !ends || !are || len(line) > 70 || i > 0 && len(bytes) == 0 {
			return "", api.ErrText
		}
		if i > 0 && len(list[i-1])-1+len(escapes[bytes[0]]) <= 69 {
			return "", api.ErrText
		}
		text = append(text, bytes...)
	}
	if len(list) == 0 {
		return "", api.ErrText
	}
	return string(text), api.OK
}

// randomText answers bytes of which, by a weight, many have long escapes.
func randomText(chance *rand.Rand, most int) string {
	kinds := []string{"abc $", "\t\n\\\r", "\x00\xff\x0e\x7f", every()}
	weight := chance.Intn(4)
	bytes := make([]byte, chance.Intn(most+1))
	for i := range bytes {
		kind := kinds[chance.Intn(4)]
		if chance.Intn(3) > 0 {
			kind = kinds[weight]
		}
		bytes[i] = kind[chance.Intn(len(kind))]
	}
	return string(bytes)
}

func TestRandomTexts(t *testing.T) {
	chance := rand.New(rand.NewSource(61))
	for range 10000 {
		text := randomText(chance, 250)
		checkLines(t, text, slowLines(text)...)
		if t.Failed() {
			return
		}
	}
	checkLines(t, every(), slowLines(every())...)
	long := randomText(chance, 100000)
	checkLines(t, long, slowLines(long)...)
}

// P16.2: no line is longer than Width, and no line but the last could take one escape more.
func TestLinesAreFull(t *testing.T) {
	chance := rand.New(rand.NewSource(62))
	for range 3000 {
		text := randomText(chance, 400)
		list := Lines(text)
		for i, line := range list {
			if len(line) > 70 || i < len(list)-1 && len(line) < 67 {
				t.Fatalf("Lines(%q) has the line %q", text, line)
			}
		}
	}
}

// checkRead holds Read against the slow reader.
func checkRead(t *testing.T, list []string) api.Errno {
	t.Helper()
	want, wantE := slowRead(list)
	text, e := Read(list)
	if text != want || e != wantE {
		t.Fatalf("Read(%q) = %q, %d, want %q, %d", list, text, e, want, wantE)
	}
	if e == api.OK && !slices.Equal(Lines(text), list) {
		t.Fatalf("Read(%q) = %q, but its lines are %q", list, text, Lines(text))
	}
	return e
}

// Every line of up to six bytes that mean something, alone.
func TestSmallLists(t *testing.T) {
	var read func(line string)
	read = func(line string) {
		checkRead(t, []string{line})
		if len(line) < 6 {
			for _, b := range []byte("a\\t01$\n") {
				read(line + string(b))
			}
		}
	}
	read("")
}

// beside answers a list that differs a little from another one.
func beside(chance *rand.Rand, list []string) []string {
	near := slices.Clone(list)
	i := chance.Intn(len(near))
	line := near[i]
	at := chance.Intn(len(line) + 1)
	if chance.Intn(2) == 0 {
		at = len(line) - min(len(line), chance.Intn(3))
	}
	piece := []string{"a", "$", `\`, `\\`, `\t`, "t", "0", `\000`, `\011`, `\q`, "\n", ""}[chance.Intn(12)]
	switch chance.Intn(8) {
	case 0:
		near[i] = line[:at] + piece + line[at:]
	case 1:
		near[i] = line[:at] + line[min(len(line), at+1+chance.Intn(2)):]
	case 2:
		near[i] = line[:at] + piece + line[min(len(line), at+len(piece)):]
	case 3:
		near = slices.Insert(near, i+chance.Intn(2), piece)
	case 4:
		near = slices.Delete(near, i, i+1)
	case 5:
		near = slices.Insert(near, i+1, line)
	case 6:
		near[i] = line[:at] + `\`
		near = slices.Insert(near, i+1, line[at:])
	case 7:
		if i > 0 {
			ahead := near[i-1][:len(near[i-1])-1]
			cut := chance.Intn(len(ahead)+1) / (1 + chance.Intn(3))
			near[i-1], near[i] = ahead[:len(ahead)-cut]+`\`, ahead[len(ahead)-cut:]+line
		}
	}
	return near
}

func TestListsBesideOthers(t *testing.T) {
	chance := rand.New(rand.NewSource(63))
	counts := map[api.Errno]int{}
	for range 20000 {
		near := beside(chance, Lines(randomText(chance, 160)))
		if len(near) > 0 && near[0] != "" && chance.Intn(4) == 0 && !slices.Contains(near, "") {
			near = beside(chance, near)
		}
		counts[checkRead(t, near)]++
	}
	if counts[api.OK] < 1000 || counts[api.ErrText] < 1000 {
		t.Errorf("the answers: %v", counts)
	}
}

// What is answered hangs on the arguments alone.
func TestTheSameAgain(t *testing.T) {
	chance := rand.New(rand.NewSource(64))
	for range 300 {
		text, other := randomText(chance, 200), randomText(chance, 200)
		list := Lines(text)
		Lines(other)
		Read([]string{other})
		if !slices.Equal(Lines(text), list) {
			t.Fatalf("Lines(%q) is another one the second time", text)
		}
		if read, e := Read(list); read != text || e != api.OK {
			t.Fatalf("Read(%q) = %q, %d, want %q", list, read, e, text)
		}
	}
}
