package lease

import (
	"pooler/api"
	"pooler/table"
)

// idle is the Client of a server that is leased to nobody.
const idle = 0

// noServer is the Id of what stands for a server where there is none.
const noServer = 0

func isServer(servers []api.Server, id int) bool {
	for i := 0; i < len(servers); i++ {
		if servers[i].Id == id {
			return true
		}
	}
	return false
}

// heldBy is the server that a client holds; noServer is its Id if there is none.
func heldBy(servers []api.Server, client int) api.Server {
	for i := 0; i < len(servers); i++ {
		if servers[i].Client == client {
			return servers[i]
		}
	}
	return api.Server{Id: noServer}
}

// firstIdle is the idle server with the least Id; noServer is its Id if there is none.
func firstIdle(servers []api.Server) api.Server {
	return heldBy(servers, idle)
}

// firstIdleOf is firstIdle among the servers of one pool.
func firstIdleOf(servers []api.Server, pool string) api.Server {
	those := serversOf(servers, pool)
	return firstIdle(those)
}

// lastIdle is the idle server with the greatest Id; noServer is its Id if there is none.
func lastIdle(servers []api.Server) api.Server {
	last := api.Server{Id: noServer}
	for i := 0; i < len(servers); i++ {
		if servers[i].Client == idle {
			last = servers[i]
		}
	}
	return last
}

// lastIdleOf is lastIdle among the servers of one pool.
func lastIdleOf(servers []api.Server, pool string) api.Server {
	those := serversOf(servers, pool)
	return lastIdle(those)
}

// serversOf is the servers of one pool, in a fresh list.
func serversOf(servers []api.Server, pool string) []api.Server {
	those := []api.Server{}
	for i := 0; i < len(servers); i++ {
		if servers[i].Pool == pool {
			those = append(those, servers[i])
		}
	}
	return those
}

func countOf(servers []api.Server, pool string) int {
	those := serversOf(servers, pool)
	return len(those)
}

// hasOtherFar tells whether a server is of this pool, and was opened when the pool had another Far.
func hasOtherFar(s api.Server, pool string, far int) bool {
	return s.Pool == pool && s.Far != far
}

func anyOtherFar(servers []api.Server, pool string, far int) bool {
	for i := 0; i < len(servers); i++ {
		if hasOtherFar(servers[i], pool, far) {
			return true
		}
	}
	return false
}

// open opens a server of a pool and leases it to a client. The new Id is the greatest, so the servers stay in their order.
func (d *Desk) open(pool api.Pool, client int) {
	d.opened++
	s := api.Server{Id: d.opened, Pool: pool.Name, Far: pool.Far, Client: client}
	d.servers = append(d.servers, s)
}

func (d *Desk) shut(id int) {
	left := []api.Server{}
	for i := 0; i < len(d.servers); i++ {
		if d.servers[i].Id != id {
			left = append(left, d.servers[i])
		}
	}
	d.servers = left
}

// shutOtherFar closes the idle servers of a pool that have another Far than this one.
func (d *Desk) shutOtherFar(pool string, far int) {
	left := []api.Server{}
	for i := 0; i < len(d.servers); i++ {
		s := d.servers[i]
		if s.Client != idle || !hasOtherFar(s, pool, far) {
			left = append(left, s)
		}
	}
	d.servers = left
}

// hand gives the server with this Id to a client, or makes it idle.
func (d *Desk) hand(id int, client int) {
	for i := 0; i < len(d.servers); i++ {
		if d.servers[i].Id == id {
			d.servers[i].Client = client
		}
	}
}

// isSurplus tells whether a server that is there is surplus.
func (d *Desk) isSurplus(s api.Server) bool {
	pool, ok := table.Find(d.table.Pools, s.Pool)
	if !ok || s.Far != pool.Far {
		return true
	}
	if countOf(d.servers, s.Pool) > pool.Size {
		return true
	}
	return len(d.servers) > d.table.Budget
}
