package plan

import (
	"pooler/api"
	"pooler/table"
)

// Take is the table that is in force once a step has begun (P12); t itself is left alone.
func Take(t api.Table, step api.Step) api.Table {
	switch step.Kind {
	case api.Cut, api.Raise:
		t.Budget = step.N
	case api.Drop:
		t.Pools = table.Without(t.Pools, step.Name)
	case api.Add:
		t.Pools = table.Insert(t.Pools, api.Pool{Name: step.Name})
	case api.Shrink, api.Move, api.Hold, api.Grow:
		t.Pools = changed(t.Pools, step)
	}
	return table.Copy(t)
}

// changed is the pools, with the step's number in the pool that it names.
func changed(pools []api.Pool, step api.Step) []api.Pool {
	others := table.Without(pools, step.Name)
	p := poolIn(pools, step.Name)
	switch step.Kind {
	case api.Shrink, api.Grow:
		p.Size = step.N
	case api.Move:
		p.Far = step.N
	case api.Hold:
		p.Wait = step.N
	}
	return table.Insert(others, p)
}
