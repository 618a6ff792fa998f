package plan

import (
	"pooler/api"
	"pooler/table"
)

// Way is the plan that is on its way; without a step it is none. Its lists are its own: nobody else has them.
type Way struct {
	steps []api.Step // those that are left
	begun bool       // the first of them has begun
	back  bool       // Abort made it
	home  api.Table  // where it came from; on the way back nobody asks for it again
}

// Forth is the way from the table in force to that of a text (P11).
func Forth(now api.Table, goal api.Table) Way {
	steps := between(now, goal)
	if len(steps) == 0 {
		return Way{}
	}
	return Way{steps: steps, home: table.Copy(now)}
}

// Back is the way from the table in force to where w came from (P13).
func (w *Way) Back(now api.Table) Way {
	steps := between(now, w.home)
	if len(steps) == 0 {
		return Way{}
	}
	return Way{steps: steps, back: true}
}

// Left is how many steps are left.
func (w *Way) Left() int { return len(w.steps) }

// Steps is the steps that are left, in a list that is the caller's.
func (w *Way) Steps() []api.Step { return append([]api.Step{}, w.steps...) }

// HasBegun tells whether the first step has begun.
func (w *Way) HasBegun() bool { return w.begun }

// IsBack tells whether it is a way back.
func (w *Way) IsBack() bool { return w.back }

// First is the step that is next or has begun; where none is left, it is of no kind.
func (w *Way) First() api.Step {
	if len(w.steps) == 0 {
		return api.Step{}
	}
	return w.steps[0]
}

// Turned notes that the first step has begun, and takes it off if it is done. With the last one all is over.
func (w *Way) Turned(done bool) {
	w.begun = !done
	if !done {
		return
	}
	w.steps = behindFirst(w.steps)
	if len(w.steps) == 0 {
		w.back = false
		w.home = api.Table{}
	}
}

// behindFirst is a fresh list, so that no step is kept that is over.
func behindFirst(steps []api.Step) []api.Step {
	left := []api.Step{}
	for i := 1; i < len(steps); i++ {
		left = append(left, steps[i])
	}
	return left
}
