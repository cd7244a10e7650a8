package ytab

import (
	"math/rand"
	"strings"
	"testing"

	"runnel/api"
)

// slowPiece reads a text from its end: what its first byte, or two, are, ahead of what the rest is.
func slowPiece(text string, at int) (string, api.Fault) {
	if text == "" {
		return "", api.Fault{}
	}
	first, length := text[:1], 1
	if first == `\` {
		if len(text) == 1 {
			return "", api.Fault{E: api.ErrEnd, At: at}
		}
		first, length = text[1:2], 2
		if first == "n" {
			first = "\n"
		} else if strings.Contains(letters+"0123456789", first) {
			return "", api.Fault{E: api.ErrEscape, At: at}
		}
	}
	rest, fault := slowPiece(text[length:], at+length)
	if fault.E != api.OK {
		return "", fault
	}
	return first + rest, api.Fault{}
}

// checkRead holds Piece against the slow reader, twice, as the second call must answer what the first did.
func checkRead(t *testing.T, text string) {
	t.Helper()
	want, wantFault := slowPiece(text, 0)
	for range 2 {
		if meant, fault := Piece(text); meant != want || fault != wantFault {
			t.Fatalf("Piece(%q) = %q, %v, want %q, %v", text, meant, fault, want, wantFault)
		}
	}
}

// Every text of up to six bytes that mean something.
func TestSmallTexts(t *testing.T) {
	var read func(text string)
	read = func(text string) {
		checkRead(t, text)
		if len(text) < 6 {
			for _, b := range []byte("a\\n\n3/") {
				read(text + string(b))
			}
		}
	}
	read("")
}

// randomText answers a text of any bytes, with some backslashes more.
func randomText(chance *rand.Rand, most int) string {
	var text strings.Builder
	for range chance.Intn(most + 1) {
		switch chance.Intn(4) {
		case 0:
			text.WriteByte('\\')
		case 1:
			text.WriteString(`\n`)
		}
		text.WriteByte(byte(chance.Intn(256)))
	}
	return text.String()
}

func TestRandomPieces(t *testing.T) {
	chance := rand.New(rand.NewSource(51))
	for range 30000 {
		checkRead(t, randomText(chance, 12))
	}
}

// slowTable answers what New must, by looking at each two bytes.
func slowTable(from, to string) ([256]byte, api.Errno) {
	if len(from) != len(to) {
		return [256]byte{}, api.ErrMap
	}
	for i := range len(from) {
		if strings.Contains(from[:i], from[i:i+1]) {
			return [256]byte{}, api.ErrMap
		}
	}
	var table [256]byte
	for b := range 256 {
		table[b] = byte(b)
		for i := range len(from) {
			if int(from[i]) == b {
				table[b] = to[i]
			}
		}
	}
	return table, api.OK
}

// unlike answers bytes that are unlike each other.
func unlike(chance *rand.Rand, length int) string {
	bytes := make([]byte, length)
	for i, b := range chance.Perm(256)[:length] {
		bytes[i] = byte(b)
	}
	return string(bytes)
}

// randomBytes answers any bytes.
func randomBytes(chance *rand.Rand, length int) string {
	bytes := make([]byte, length)
	for i := range bytes {
		bytes[i] = byte(chance.Intn(256))
	}
	return string(bytes)
}

func TestRandomTables(t *testing.T) {
	chance := rand.New(rand.NewSource(52))
	counts := map[api.Errno]int{}
	for range 4000 {
		from := unlike(chance, chance.Intn(257))
		if chance.Intn(3) == 0 {
			from = randomBytes(chance, chance.Intn(40))
		}
		to := randomBytes(chance, max(0, len(from)+max(0, chance.Intn(8)-6)*(chance.Intn(3)-1)))
		want, wantE := slowTable(from, to)
		table, e := New(from, to)
		if table != want || e != wantE {
			t.Fatalf("New(%q, %q) = %v, %d, want %v, %d", from, to, table, e, want, wantE)
		}
		counts[e]++
		text := randomBytes(chance, chance.Intn(600))
		turned := Apply(table, text)
		if len(turned) != len(text) {
			t.Fatalf("Apply has made %d bytes of %d", len(turned), len(text))
		}
		for at := range len(text) {
			if turned[at] != table[text[at]] {
				t.Fatalf("Apply has made %d of %d, want %d", turned[at], text[at], table[text[at]])
			}
		}
	}
	if counts[api.OK] < 500 || counts[api.ErrMap] < 500 {
		t.Errorf("the answers: %v", counts)
	}
}

// Apply takes any table, not only one that New makes.
func TestRandomApply(t *testing.T) {
	chance := rand.New(rand.NewSource(53))
	for range 2000 {
		var table [256]byte
		copy(table[:], randomBytes(chance, 256))
		for _, text := range []string{every(), randomBytes(chance, chance.Intn(300))} {
			var want strings.Builder
			for at := range len(text) {
				want.WriteByte(table[text[at]])
			}
			checkApply(t, table, text, want.String())
		}
	}
}
