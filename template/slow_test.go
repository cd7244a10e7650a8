package template

import (
	"math/rand"
	"slices"
	"strings"
	"testing"

	"runnel/api"
)

// slowParse reads a replacement from its end: what the first byte, or two, are, ahead of what the rest is.
func slowParse(text string, at int) ([]api.Part, api.Fault) {
	if text == "" {
		return nil, api.Fault{}
	}
	first, length := plain(text[:1]), 1
	switch text[0] {
	case '&':
		first = group(0)
	case '\n':
		return nil, api.Fault{E: api.ErrText, At: at}
	case '\\':
		if len(text) == 1 {
			return nil, api.Fault{E: api.ErrEnd, At: at}
		}
		first, length = plain(text[1:2]), 2
		if text[1] == 'n' {
			first = plain("\n")
		}
		if digit := strings.IndexByte("0123456789", text[1]); digit >= 0 {
			first = group(digit)
		}
	}
	rest, fault := slowParse(text[length:], at+length)
	if fault.E != api.OK {
		return nil, fault
	}
	if first.Group == -1 && len(rest) > 0 && rest[0].Group == -1 {
		rest[0].Text = first.Text + rest[0].Text
		return rest, api.Fault{}
	}
	return append([]api.Part{first}, rest...), api.Fault{}
}

// slowBuild puts the parts' texts together first, and then looks where they grow too long.
func slowBuild(parts []api.Part, subject string, spans []api.Span) (string, api.Errno) {
	whole := ""
	for _, part := range parts {
		if part.Group <= -2 {
			return "", api.ErrArg
		}
		text := ""
		if part.Group == -1 {
			text = part.Text
		}
		for number, span := range spans {
			if number == part.Group && 0 <= span.From && span.From <= span.To && span.To <= len(subject) {
				text = subject[span.From:span.To]
			}
		}
		whole += text
		if len(whole) > 1024 {
			return "", api.ErrSpace
		}
	}
	return whole, api.OK
}

// checkRead holds Parse against the slow reader, and what it answers against P13.5 and Refs.
func checkRead(t *testing.T, text string) {
	t.Helper()
	parts, fault := Parse(text)
	want, wantFault := slowParse(text, 0)
	if !slices.Equal(parts, want) || fault != wantFault {
		t.Fatalf("Parse(%q) = %v, %v, want %v, %v", text, parts, fault, want, wantFault)
	}
	for i, part := range parts {
		if part.Group == -1 && part.Text == "" || part.Group != -1 && part.Text != "" || i > 0 && part.Group == -1 && parts[i-1].Group == -1 {
			t.Fatalf("Parse(%q) = %v", text, parts)
		}
	}
	written, e := Text(parts)
	if e != api.OK {
		t.Fatalf("Text(Parse(%q)) = %q, %d", text, written, e)
	}
	if again, fault := Parse(written); !slices.Equal(again, parts) || fault != (api.Fault{}) {
		t.Fatalf("Parse(%q) = %v, but of its Text %q it is %v, %v", text, parts, written, again, fault)
	}
}

// Every text of up to six bytes that mean something.
func TestSmallTexts(t *testing.T) {
	const alphabet = "a\\&\n3n0"
	var read func(text string)
	read = func(text string) {
		checkRead(t, text)
		if len(text) < 6 {
			for _, b := range []byte(alphabet) {
				read(text + string(b))
			}
		}
	}
	read("")
}

// randomText answers a text of some pieces, and now and then any byte.
func randomText(chance *rand.Rand, most int) string {
	pieces := []string{"a", "n", "1", "&", `\`, `\\`, `\&`, `\n`, "\\\n", `\0`, `\1`, `\9`, "bc", `\d`}
	var text strings.Builder
	for range chance.Intn(most + 1) {
		text.WriteString(pieces[chance.Intn(len(pieces))])
		if chance.Intn(20) == 0 {
			text.WriteByte(byte(chance.Intn(256)))
		}
	}
	return text.String()
}

func TestRandomTexts(t *testing.T) {
	chance := rand.New(rand.NewSource(41))
	for range 30000 {
		checkRead(t, randomText(chance, 12))
	}
	// What is long stays as long as it was, or gets shorter.
	for range 200 {
		text := randomText(chance, 4000)
		checkRead(t, text[:min(len(text), 4096)])
	}
}

// randomParts answers parts with Groups from a least to a greatest one.
func randomParts(chance *rand.Rand, least, greatest int) []api.Part {
	texts := []string{"", "", "a", "&", `\`, "\n", `\n`, `\1`, "n", "1", "b&\n\\c", strings.Repeat("x", 300), strings.Repeat("\n", 600), strings.Repeat("\n", 1500)}
	var parts []api.Part
	for range chance.Intn(7) {
		part := group(least + chance.Intn(greatest-least+1))
		if chance.Intn(2) == 0 {
			part.Group = -1
		}
		if part.Group == -1 || chance.Intn(4) == 0 {
			part.Text = texts[chance.Intn(len(texts))]
		}
		parts = append(parts, part)
	}
	return parts
}

// randomSpans answers spans of which some don't lie within a subject of the length.
func randomSpans(chance *rand.Rand, length int) []api.Span {
	var spans []api.Span
	for range chance.Intn(11) {
		spans = append(spans, span(chance.Intn(length+4)-2, chance.Intn(length+4)-2))
	}
	return spans
}

// P13.5: what is written of parts has no fault, and makes the same of any match.
func TestRandomParts(t *testing.T) {
	chance := rand.New(rand.NewSource(42))
	tooLong := 0
	for range 30000 {
		parts := randomParts(chance, -1, 9)
		text, e := Text(parts)
		if e != api.OK {
			t.Fatalf("Text(%v) = %d", parts, e)
		}
		read, fault := Parse(text)
		if len(text) > 4096 {
			tooLong++
			if fault != (api.Fault{E: api.ErrLong}) {
				t.Fatalf("Parse of %d bytes: %v", len(text), fault)
			}
			continue
		}
		if fault != (api.Fault{}) || Refs(read) != Refs(parts) {
			t.Fatalf("Parse(%q) = %v, %v of %v", text, read, fault, parts)
		}
		subject := strings.Repeat("pqr", chance.Intn(100))
		for range 3 {
			spans := randomSpans(chance, len(subject))
			built, e := Build(parts, subject, spans)
			again, f := Build(read, subject, spans)
			if built != again || e != f {
				t.Fatalf("Build(%v, %q, %v) = %q, %d, but of %q %q, %d", parts, subject, spans, built, e, text, again, f)
			}
		}
	}
	if tooLong == 0 {
		t.Error("no text was too long")
	}
}

// P13.4 and the order of Build's errors, on parts with any Groups.
func TestRandomBuilds(t *testing.T) {
	chance := rand.New(rand.NewSource(43))
	counts := map[api.Errno]int{}
	for range 50000 {
		parts := randomParts(chance, -2+chance.Intn(2), 11)
		subject := strings.Repeat("pqr", chance.Intn(200))
		spans := randomSpans(chance, len(subject))
		want, wantE := slowBuild(parts, subject, spans)
		for range 2 {
			if built, e := Build(parts, subject, spans); built != want || e != wantE {
				t.Fatalf("Build(%v, %q, %v) = %q, %d, want %q, %d", parts, subject, spans, built, e, want, wantE)
			}
		}
		counts[wantE]++
	}
	for _, e := range []api.Errno{api.OK, api.ErrArg, api.ErrSpace} {
		if counts[e] < 100 {
			t.Errorf("the answers: %v", counts)
		}
	}
}
