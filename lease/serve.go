package lease

import (
	"pooler/api"
	"pooler/table"
)

// serve serves the first in the line who can be served, and so again till nobody can be (P7). Whoever is served leaves the line, so there are no more rounds than there were waiters.
func (d *Desk) serve() {
	for rounds := len(d.waiters); rounds > 0; rounds-- {
		if !d.serveFirst() {
			return
		}
	}
}

// serveFirst serves the first in the line who can be served; false: nobody can be.
func (d *Desk) serveFirst() bool {
	for i := 0; i < len(d.waiters); i++ {
		w := d.waiters[i]
		if d.give(w) {
			d.quit(w.Client)
			return true
		}
	}
	return false
}

// give leases a server to one who waits; false: that one can not be served, and nothing is changed.
func (d *Desk) give(w api.Waiter) bool {
	pool, ok := table.Find(d.table.Pools, w.Pool)
	if !ok {
		return false
	}
	spare := firstIdleOf(d.servers, pool.Name)
	if spare.Id != noServer {
		d.hand(spare.Id, w.Client)
		return true
	}
	if countOf(d.servers, pool.Name) >= pool.Size {
		return false
	}
	if !d.makeRoom() {
		return false
	}
	d.open(pool, w.Client)
	return true
}

// makeRoom tells whether the Budget has room for one server more, and closes the first idle one if it takes that; false: there is none, and nothing is changed. Above the Budget one that is closed would not be enough.
func (d *Desk) makeRoom() bool {
	if len(d.servers) < d.table.Budget {
		return true
	}
	spare := firstIdle(d.servers)
	if len(d.servers) > d.table.Budget || spare.Id == noServer {
		return false
	}
	d.shut(spare.Id)
	return true
}
