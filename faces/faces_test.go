// Package faces holds the layers' calls against the signatures that the chapters list: it doesn't compile if one differs.
package faces

import (
	"iter"
	"testing"

	"runnel/api"
	"runnel/backmatch"
	"runnel/bracket"
	"runnel/bre"
	"runnel/bset"
	"runnel/canon"
	"runnel/check"
	"runnel/emit"
	"runnel/input"
	"runnel/lines"
	"runnel/listing"
	"runnel/machine"
	"runnel/matcher"
	"runnel/measure"
	"runnel/occur"
	"runnel/pick"
	"runnel/reach"
	"runnel/run"
	"runnel/scan"
	"runnel/script"
	"runnel/setmatch"
	"runnel/show"
	"runnel/store"
	"runnel/subst"
	"runnel/template"
	"runnel/ways"
	"runnel/ytab"
)

// The texts and the sets: layers 1 to 3.
var (
	_ func(string) iter.Seq2[int, string]         = lines.All
	_ func(string) []string                       = lines.Cut
	_ func([]string) string                       = lines.Join
	_ func(string, int) (int, api.Errno)          = lines.Number
	_ func(string, int) []string                  = lines.Tail
	_ func(string) api.Set                        = bset.Of
	_ func(byte, byte) (api.Set, api.Errno)       = bset.Span
	_ func(string) (api.Set, api.Errno)           = bset.Class
	_ func(api.Set) api.Set                       = bset.Not
	_ func(api.Set, api.Set) api.Set              = bset.Or
	_ func(api.Set, api.Set) api.Set              = bset.And
	_ func(api.Set, byte) bool                    = bset.Has
	_ func(api.Set) int                           = bset.Count
	_ func(api.Set) iter.Seq[byte]                = bset.Members
	_ func(string, int) (api.Set, int, api.Errno) = bracket.Parse
	_ func(api.Set) string                        = bracket.Text
)

// The BREs and their matches: layers 4 to 12.
var (
	_ func(string) (api.Re, api.Fault)                                  = bre.Parse
	_ func(string) (string, api.Fault)                                  = canon.Text
	_ func(string) (api.Measure, api.Fault)                             = measure.Of
	_ func(string, string, int) ([]int, api.Errno)                      = reach.Ends
	_ func(string, string, int) ([]int, api.Errno)                      = reach.Starts
	_ func(string, string) (bool, api.Errno)                            = reach.Whole
	_ func(string, string, int) (api.Span, bool, api.Errno)             = reach.First
	_ func(string, string, int) ([]api.Span, bool, int, api.Errno)      = setmatch.Match
	_ func(string, string, int) (int, api.Errno)                        = ways.Count
	_ func(string, string, int) ([]api.Span, bool, api.Errno)           = backmatch.Match
	_ func(string) (*matcher.Matcher, api.Fault)                        = matcher.New
	_ func(*matcher.Matcher, string, int) ([]api.Span, bool, api.Errno) = (*matcher.Matcher).Match
	_ func(*matcher.Matcher) string                                     = (*matcher.Matcher).Text
	_ func(*matcher.Matcher) int                                        = (*matcher.Matcher).Groups
	_ func(*matcher.Matcher) int                                        = (*matcher.Matcher).Steps
	_ func(*matcher.Matcher, string) iter.Seq2[[]api.Span, api.Errno]   = occur.All
	_ func(string, string, int) ([][]api.Span, api.Errno)               = occur.List
)

// The replacements, tables and listings: layers 13 to 16.
var (
	_ func(string) ([]api.Part, api.Fault)                                           = template.Parse
	_ func([]api.Part) int                                                           = template.Refs
	_ func([]api.Part) (string, api.Errno)                                           = template.Text
	_ func([]api.Part, string, []api.Span) (string, api.Errno)                       = template.Build
	_ func(*matcher.Matcher, []api.Part, int, bool, string) (string, int, api.Errno) = subst.Do
	_ func(string) (string, api.Fault)                                               = ytab.Piece
	_ func(string, string) ([256]byte, api.Errno)                                    = ytab.New
	_ func([256]byte, string) string                                                 = ytab.Apply
	_ func(byte) string                                                              = listing.Escape
	_ func(string) iter.Seq[string]                                                  = listing.All
	_ func(string) []string                                                          = listing.Lines
	_ func([]string) (string, api.Errno)                                             = listing.Read
)

// The scripts: layers 17 to 21.
var (
	_ func(string, int) int                                  = scan.Blanks
	_ func(string, int) (int, int, api.Errno)                = scan.Number
	_ func(string, int, byte, bool) (string, int, api.Errno) = scan.Until
	_ func(string, int) (string, int, api.Errno)             = scan.Text
	_ func(string, int) (string, int)                        = scan.Line
	_ func(string) bool                                      = scan.Name
	_ func(string, int) (string, int)                        = scan.Word
	_ func(string) ([]api.Command, bool, api.Fault)          = script.Parse
	_ func([]api.Command) api.Fault                          = check.Check
	_ func(string) (api.Program, api.Fault)                  = emit.Build
	_ func(string) (string, api.Fault)                       = show.Text
)

// The run: layers 22 to 26.
var (
	_ func([]api.Row) (*pick.Picker, api.Errno)                          = pick.New
	_ func(*pick.Picker) *matcher.Matcher                                = (*pick.Picker).Last
	_ func(*pick.Picker, *matcher.Matcher)                               = (*pick.Picker).Use
	_ func(*pick.Picker, int, int, bool, string) (bool, bool, api.Errno) = (*pick.Picker).Ask
	_ func() *input.Queue                                                = input.New
	_ func(*input.Queue, string) api.Errno                               = (*input.Queue).Feed
	_ func(*input.Queue) api.Errno                                       = (*input.Queue).Close
	_ func(*input.Queue) bool                                            = (*input.Queue).Ready
	_ func(*input.Queue) (string, bool)                                  = (*input.Queue).Next
	_ func(*input.Queue) bool                                            = (*input.Queue).Last
	_ func(*input.Queue) int                                             = (*input.Queue).Number
	_ func(*input.Queue) int                                             = (*input.Queue).Waiting
	_ func(*input.Queue) int                                             = (*input.Queue).Held
	_ func([]api.File) (*store.Store, api.Errno)                         = store.New
	_ func(*store.Store, string) api.Errno                               = (*store.Store).Open
	_ func(*store.Store, string, string) api.Errno                       = (*store.Store).Write
	_ func(*store.Store, string) api.Errno                               = (*store.Store).Print
	_ func(*store.Store) string                                          = (*store.Store).Out
	_ func(*store.Store) int                                             = (*store.Store).Written
	_ func(*store.Store, string) (string, bool)                          = (*store.Store).Read
	_ func(*store.Store) iter.Seq2[string, string]                       = (*store.Store).All
	_ func(*store.Store) []api.File                                      = (*store.Store).Files
	_ func(string, bool, []api.File) (*machine.Machine, api.Fault)       = machine.Load
	_ func(*machine.Machine, string) api.Errno                           = (*machine.Machine).Feed
	_ func(*machine.Machine) api.Errno                                   = (*machine.Machine).Close
	_ func(*machine.Machine, int) int                                    = (*machine.Machine).Step
	_ func(*machine.Machine) string                                      = (*machine.Machine).Out
	_ func(*machine.Machine) []api.File                                  = (*machine.Machine).Files
	_ func(*machine.Machine) (string, string)                            = (*machine.Machine).Spaces
	_ func(*machine.Machine) int                                         = (*machine.Machine).Line
	_ func(*machine.Machine) int                                         = (*machine.Machine).Ticks
	_ func(*machine.Machine) int                                         = (*machine.Machine).Held
	_ func(*machine.Machine) api.Errno                                   = (*machine.Machine).Err
	_ func(api.Job) api.Result                                           = run.Run
)

// The errors' numbers stand in the order that DOC.md names, from 0 on.
func TestErrorsInTheirOrder(t *testing.T) {
	for number, e := range []api.Errno{
		api.OK, api.ErrArg, api.ErrLong, api.ErrName, api.ErrFull, api.ErrNone, api.ErrEnd, api.ErrRange, api.ErrClass,
		api.ErrRepeat, api.ErrParen, api.ErrBack, api.ErrEscape, api.ErrTooBig, api.ErrWays, api.ErrSpace, api.ErrOut,
		api.ErrAddress, api.ErrCommand, api.ErrText, api.ErrFlag, api.ErrMap, api.ErrLabel, api.ErrBlock, api.ErrLast,
		api.ErrState, api.ErrTicks,
	} {
		if int(e) != number {
			t.Errorf("the error at %d has the number %d", number, e)
		}
	}
}
