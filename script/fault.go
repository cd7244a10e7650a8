package script

import (
	"strconv"

	"runnel/api"
)

// gaveUp is a fault of a script, as the error with which the reader gives up.
type gaveUp api.Fault

func (g gaveUp) Error() string {
	return "error " + strconv.Itoa(int(g.E)) + " at " + strconv.Itoa(g.At)
}

// giveUp ends the reading of a script.
func giveUp(e api.Errno, at int) {
	panic(gaveUp{E: e, At: at})
}

// need gives up if there is an error.
func need(e api.Errno, at int) {
	if e != api.OK {
		giveUp(e, at)
	}
}
