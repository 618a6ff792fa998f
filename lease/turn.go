package lease

import (
	"pooler/api"
	"pooler/plan"
)

// Turn goes on with a step of a plan, which has begun or begins now; true: it is done (P12).
func (d *Desk) Turn(step api.Step, begun bool) bool {
	if !begun {
		d.begin(step)
	}
	d.serve()
	return d.isDone(step)
}

// begin lets a step take effect. No lease ends by it: a leased server that is surplus now is closed by Done.
func (d *Desk) begin(step api.Step) {
	d.table = plan.Take(d.table, step)
	switch step.Kind {
	case api.Shrink:
		d.thinPool(step.Name, step.N)
	case api.Drop:
		// Nobody may wait for what is not in force, and nothing of it may stay idle.
		d.thinLine(step.Name, 0)
		d.thinPool(step.Name, 0)
	case api.Cut:
		d.thinAll(step.N)
	case api.Move:
		d.shutOtherFar(step.Name, step.N)
	case api.Hold:
		d.thinLine(step.Name, step.N)
	}
}

func (d *Desk) isDone(step api.Step) bool {
	switch step.Kind {
	case api.Shrink:
		return countOf(d.servers, step.Name) <= step.N
	case api.Drop:
		return countOf(d.servers, step.Name) == 0
	case api.Cut:
		return len(d.servers) <= step.N
	case api.Move:
		return !anyOtherFar(d.servers, step.Name, step.N)
	}
	return true
}

// thinPool closes idle servers of a pool, the greatest Id first, as long as the pool has more than n.
func (d *Desk) thinPool(pool string, n int) {
	for over := countOf(d.servers, pool) - n; over > 0; over-- {
		last := lastIdleOf(d.servers, pool)
		if last.Id == noServer {
			return
		}
		d.shut(last.Id)
	}
}

// thinAll is thinPool among all servers.
func (d *Desk) thinAll(n int) {
	for over := len(d.servers) - n; over > 0; over-- {
		last := lastIdle(d.servers)
		if last.Id == noServer {
			return
		}
		d.shut(last.Id)
	}
}

// thinLine takes those who came last for a pool out of the line, as long as more than n wait for it.
func (d *Desk) thinLine(pool string, n int) {
	for over := waitersFor(d.waiters, pool) - n; over > 0; over-- {
		last := lastWaiterFor(d.waiters, pool)
		d.quit(last.Client)
	}
}
