package run

import (
	"math"
	"strings"
	"testing"

	"runnel/api"
)

// Fuel of every size: what is told behind as many ticks.
func TestFuel(t *testing.T) {
	job := api.Job{Words: words("w f\np"), Files: []api.File{named("f", "old")}, Input: "a\nb"}
	file := func(data string) []api.File { return []api.File{named("f", data)} }
	for fuel, want := range []api.Result{
		{State: api.Spent, Files: file("")},
		{State: api.Spent, Files: file(""), Ticks: 1},
		{State: api.Spent, Files: file("a\n"), Ticks: 2},
		{State: api.Spent, Files: file("a\n"), Out: "a\n", Ticks: 3},
		{State: api.Spent, Files: file("a\n"), Out: "a\na\n", Ticks: 4},
		{State: api.Spent, Files: file("a\n"), Out: "a\na\n", Ticks: 5},
		{State: api.Spent, Files: file("a\nb\n"), Out: "a\na\n", Ticks: 6},
		{State: api.Spent, Files: file("a\nb\n"), Out: "a\na\nb\n", Ticks: 7},
		// All ticks are made, but that the run has ended is found ahead of the next one.
		{State: api.Spent, Files: file("a\nb\n"), Out: "a\na\nb\nb\n", Ticks: 8},
		{State: api.Done, Files: file("a\nb\n"), Out: "a\na\nb\nb\n", Ticks: 8},
		{State: api.Done, Files: file("a\nb\n"), Out: "a\na\nb\nb\n", Ticks: 8},
	} {
		job.Fuel = fuel
		check(t, job, want)
	}
	for _, fuel := range []int{-1, -2, -much, math.MinInt} {
		job.Fuel = fuel
		check(t, job, api.Result{State: api.Spent, Files: file("")})
	}
	for _, fuel := range []int{100, api.MaxTicks, api.MaxTicks + 1, math.MaxInt} {
		job.Fuel = fuel
		check(t, job, api.Result{State: api.Done, Files: file("a\nb\n"), Out: "a\na\nb\nb\n", Ticks: 8})
	}
}

// A run that quits has ended with its last tick: as much fuel is enough.
func TestFuelOfARunThatQuits(t *testing.T) {
	for fuel, want := range []api.Result{
		{State: api.Spent},
		{State: api.Spent, Ticks: 1},
		{State: api.Spent, Ticks: 2},
		{State: api.Done, Out: "a\n", Ticks: 3},
		{State: api.Done, Out: "a\n", Ticks: 3},
	} {
		check(t, api.Job{Words: words("q"), Input: "a\nb", Fuel: fuel}, want)
	}
	// So has one that meets an error.
	for fuel, want := range []api.Result{
		{State: api.Spent},
		{State: api.Spent, Ticks: 1},
		{State: api.Done, Status: 3, E: api.ErrLast, Ticks: 2},
		{State: api.Done, Status: 3, E: api.ErrLast, Ticks: 2},
	} {
		check(t, api.Job{Words: words("//p"), Input: "a\nb", Fuel: fuel}, want)
	}
}

// Without lines there is no tick; that is found only if there is fuel.
func TestFuelWithoutLines(t *testing.T) {
	for _, c := range []struct{ fuel, state int }{{-1, api.Spent}, {0, api.Spent}, {1, api.Done}, {much, api.Done}} {
		check(t, api.Job{Words: words("p"), Fuel: c.fuel}, api.Result{State: c.state})
		check(t, api.Job{Words: words("p", "none"), Fuel: c.fuel}, api.Result{State: c.state, Status: 1})
	}
}

// The fuel is for the whole run, not for each line.
func TestFuelIsForAllSteps(t *testing.T) {
	input := strings.Repeat("a\n", 100)
	check(t, api.Job{Words: words("-n", ""), Input: input, Fuel: 150}, api.Result{State: api.Spent, Ticks: 150})
	check(t, api.Job{Words: words("-n", ""), Input: input, Fuel: 200}, api.Result{State: api.Spent, Ticks: 200})
	check(t, api.Job{Words: words("-n", ""), Input: input, Fuel: 201}, api.Result{State: api.Done, Ticks: 200})
}

// More ticks than a machine makes.
func TestAsManyTicksAsMayBe(t *testing.T) {
	endless := words(":a;ba")
	check(t, api.Job{Words: endless, Input: "x", Fuel: api.MaxTicks - 1}, api.Result{State: api.Spent, Ticks: api.MaxTicks - 1})
	check(t, api.Job{Words: endless, Input: "x", Fuel: api.MaxTicks}, api.Result{State: api.Spent, Ticks: api.MaxTicks})
	check(t, api.Job{Words: endless, Input: "x", Fuel: api.MaxTicks + 1}, api.Result{Status: 3, E: api.ErrTicks, State: api.Done, Ticks: api.MaxTicks})
	check(t, api.Job{Words: endless, Input: "x", Fuel: math.MaxInt}, api.Result{Status: 3, E: api.ErrTicks, State: api.Done, Ticks: api.MaxTicks})
	check(t, api.Job{Words: append(words("-e"), append(endless, "none", "-")...), Input: "x", Fuel: api.MaxTicks}, api.Result{Status: 1, State: api.Spent, Ticks: api.MaxTicks})
	check(t, api.Job{Words: append(words("-e"), append(endless, "none", "-")...), Input: "x", Fuel: much}, api.Result{Status: 3, E: api.ErrTicks, State: api.Done, Ticks: api.MaxTicks})
	// 5000 lines are as many as can be gone through, and one more can't.
	checkTicks := func(count int, want api.Result) {
		t.Helper()
		check(t, api.Job{Words: words("-n", ""), Input: strings.Repeat("\n", count), Fuel: much}, want)
	}
	checkTicks(5000, api.Result{State: api.Done, Ticks: api.MaxTicks})
	checkTicks(5001, api.Result{Status: 3, E: api.ErrTicks, State: api.Done, Ticks: api.MaxTicks})
}
