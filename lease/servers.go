package lease

import (
	"pooler/api"
	"pooler/table"
)

// idle is the Client of a server that is leased to nobody.
const idle = 0

// noServer is the Id of what stands for a server where there is none.
const noServer = 0

func isServer(servers []api.Server, id int) bool {
	for i := 0; i < len(servers); i++ {
		if servers[i].Id == id {
			return true
		}
	}
	return false
}

// heldBy is the server that a client holds; noServer is its Id if there is none.
func heldBy(servers []api.Server, client int) api.Server {
	for i := 0; i < len(servers); i++ {
		if servers[i].Client == client {
			return servers[i]
		}
	}
	return api.Server{Id: noServer}
}

// firstIdle is the idle server with the least Id; noServer is its Id if there is none.
func firstIdle(servers []api.Server) api.Server {
	return heldBy(servers, idle)
}

// firstIdleOf is firstIdle among the servers of one pool.
func firstIdleOf(servers []api.Server, pool string) api.Server {
	for i := 0; i < len(servers); i++ {
		if servers[i].Pool == pool && servers[i].Client == idle {
			return servers[i]
		}
	}
	return api.Server{Id: noServer}
}

func countOf(servers []api.Server, pool string) int {
	count := 0
	for i := 0; i < len(servers); i++ {
		if servers[i].Pool == pool {
			count++
		}
	}
	return count
}

// open opens a server of a pool and leases it to a client. The new Id is the greatest, so the servers stay in their order.
func (d *Desk) open(pool api.Pool, client int) {
	d.opened++
	s := api.Server{Id: d.opened, Pool: pool.Name, Far: pool.Far, Client: client}
	d.servers = append(d.servers, s)
}

func (d *Desk) shut(id int) {
	left := []api.Server{}
	for i := 0; i < len(d.servers); i++ {
		if d.servers[i].Id != id {
			left = append(left, d.servers[i])
		}
	}
	d.servers = left
}

// hand gives the server with this Id to a client, or makes it idle.
func (d *Desk) hand(id int, client int) {
	for i := 0; i < len(d.servers); i++ {
		if d.servers[i].Id == id {
			d.servers[i].Client = client
		}
	}
}

// isSurplus tells whether a server that is there is surplus.
func (d *Desk) isSurplus(s api.Server) bool {
	pool, ok := table.Find(d.table.Pools, s.Pool)
	if !ok || s.Far != pool.Far {
		return true
	}
	if countOf(d.servers, s.Pool) > pool.Size {
		return true
	}
	return len(d.servers) > d.table.Budget
}
