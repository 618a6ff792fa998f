// Package plan: the steps from one table to another, what each makes of a table, and how far they are taken.
package plan

import (
	"pooler/api"
	"pooler/table"
)

// Diff makes the steps from table a to table b (P10).
func Diff(a api.Table, b api.Table) ([]api.Step, api.Errno) {
	if !table.IsTable(a) {
		return nil, api.ErrTable
	}
	if !table.IsTable(b) {
		return nil, api.ErrTable
	}
	return between(a, b), api.OK
}

// between makes the steps from a to b, which are tables.
func between(a api.Table, b api.Table) []api.Step {
	steps := []api.Step{}
	// The kinds are numbered in the order in which their steps are taken.
	for kind := api.Shrink; kind <= api.Grow; kind++ {
		some := stepsOf(kind, a, b)
		steps = append(steps, some...)
	}
	return steps
}

// stepsOf makes the steps of one kind. They are in the order of their names, since a table's pools are.
func stepsOf(kind int, a api.Table, b api.Table) []api.Step {
	switch kind {
	case api.Drop:
		return missing(kind, a.Pools, b.Pools)
	case api.Add:
		return missing(kind, b.Pools, a.Pools)
	case api.Cut, api.Raise:
		return budgetChange(kind, a.Budget, b.Budget)
	}
	return poolChanges(kind, a.Pools, b.Pools)
}

// missing makes a step of each of these pools that is not among the others.
func missing(kind int, pools []api.Pool, others []api.Pool) []api.Step {
	steps := []api.Step{}
	for i := 0; i < len(pools); i++ {
		name := pools[i].Name
		if !table.Has(others, name) {
			steps = append(steps, api.Step{Kind: kind, Name: name})
		}
	}
	return steps
}

func budgetChange(kind int, from int, to int) []api.Step {
	if !leads(kind, from, to) {
		return nil
	}
	return []api.Step{{Kind: kind, N: to}}
}

// poolChanges makes a step of each pool of b whose number in a is another, in the way that the kind asks for.
func poolChanges(kind int, a []api.Pool, b []api.Pool) []api.Step {
	steps := []api.Step{}
	for i := 0; i < len(b); i++ {
		was := poolIn(a, b[i].Name)
		from := numberOf(kind, was)
		to := numberOf(kind, b[i])
		if leads(kind, from, to) {
			steps = append(steps, api.Step{Kind: kind, Name: b[i].Name, N: to})
		}
	}
	return steps
}

// poolIn is the pool of this name; where there is none, it is one as Add makes it. Nothing is less than its Size of 0, so it is never shrunk.
func poolIn(pools []api.Pool, name string) api.Pool {
	p, ok := table.Find(pools, name)
	if !ok {
		return api.Pool{Name: name}
	}
	return p
}

// numberOf is the number of a pool that a step of this kind changes.
func numberOf(kind int, p api.Pool) int {
	switch kind {
	case api.Move:
		return p.Far
	case api.Hold:
		return p.Wait
	}
	return p.Size
}

// leads tells whether a step of this kind leads from one number to another.
func leads(kind int, from int, to int) bool {
	switch kind {
	case api.Shrink, api.Cut:
		return to < from
	case api.Raise, api.Grow:
		return to > from
	}
	return to != from
}
