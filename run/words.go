package run

import (
	"slices"
	"strings"

	"runnel/api"
)

const newline = "\n"

// standard is the word by which the standard input is meant.
const standard = "-"

// order is what the words of a command line ask for.
type order struct {
	script string
	quiet  bool
	inputs []string
}

// options are the words ahead, as far as they were read.
type options struct {
	words  []string
	files  []api.File
	next   int // the number of the word that is next
	quiet  bool
	pieces []string
}

// readWords reads the words from the front, up to the first fault.
func readWords(words []string, files []api.File) (order, api.Fault) {
	o := options{words: words, files: files}
	if fault := o.read(); fault.E != api.OK {
		return order{}, fault
	}
	if len(o.pieces) == 0 {
		script, found := o.take()
		if !found {
			return order{}, api.Fault{E: api.ErrNone, At: len(words)}
		}
		o.pieces = []string{script}
	}
	inputs := words[o.next:]
	if len(inputs) == 0 {
		inputs = []string{standard}
	}
	return order{strings.Join(o.pieces, newline), o.quiet, inputs}, api.Fault{}
}

// read reads all options.
func (o *options) read() api.Fault {
	for o.next < len(o.words) && isOption(o.words[o.next]) {
		word, _ := o.take()
		switch word {
		case "--":
			return api.Fault{}
		case "-n":
			o.quiet = true
		case "-e", "-f":
			if !o.takePiece(word == "-f") {
				return o.faultAtLast(api.ErrNone)
			}
		default:
			return o.faultAtLast(api.ErrArg)
		}
	}
	return api.Fault{}
}

// isOption tells whether a word belongs to the options, be it one that there is or not.
func isOption(word string) bool {
	return strings.HasPrefix(word, "-") && word != standard
}

// take answers the next word, which is read then; false, if there is none.
func (o *options) take() (string, bool) {
	if o.next == len(o.words) {
		return "", false
	}
	o.next++
	return o.words[o.next-1], true
}

// faultAtLast is a fault of the word that was read last.
func (o *options) faultAtLast(e api.Errno) api.Fault {
	return api.Fault{E: e, At: o.next - 1}
}

// takePiece reads a piece of the script: the next word, or the file of that name; false, if there is none.
func (o *options) takePiece(ofFile bool) bool {
	piece, found := o.take()
	if found && ofFile {
		piece, found = find(o.files, piece)
		piece = strings.TrimSuffix(piece, newline)
	}
	if found {
		o.pieces = append(o.pieces, piece)
	}
	return found
}

// find answers what the first file of a name holds; false, if there is none.
func find(files []api.File, name string) (string, bool) {
	at := slices.IndexFunc(files, func(f api.File) bool { return f.Name == name })
	if at < 0 {
		return "", false
	}
	return files[at].Data, true
}
