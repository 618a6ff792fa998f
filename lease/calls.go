package lease

import (
	"pooler/api"
	"pooler/table"
)

func isClient(client int) bool {
	return client >= 1 && client <= api.MaxClient
}

// isBusy tells whether a client holds a server or waits.
func (d *Desk) isBusy(client int) bool {
	held := heldBy(d.servers, client)
	return held.Id != noServer || waits(d.waiters, client)
}

// Ask wants a server for a client: the Id of the one that it gets, or 0 (P8).
func (d *Desk) Ask(client int, name string) (int, api.Errno) {
	if !isClient(client) {
		return 0, api.ErrClient
	}
	if d.isBusy(client) {
		return 0, api.ErrBusy
	}
	pool, ok := table.Find(d.table.Pools, name)
	if !ok {
		return 0, api.ErrPool
	}
	d.join(client, pool.Name)
	d.serve()
	held := heldBy(d.servers, client)
	if held.Id != noServer {
		return held.Id, api.OK
	}
	if waitersFor(d.waiters, pool.Name) > pool.Wait {
		d.quit(client)
		return 0, api.ErrFull
	}
	return 0, api.OK
}

// Done ends a client's lease (P9).
func (d *Desk) Done(client int) api.Errno {
	if !isClient(client) {
		return api.ErrClient
	}
	held := heldBy(d.servers, client)
	if held.Id == noServer {
		return api.ErrIdle
	}
	d.hand(held.Id, idle)
	if d.isSurplus(held) {
		d.shut(held.Id)
	}
	d.serve()
	return api.OK
}

// Leave ends a client's waiting (P9).
func (d *Desk) Leave(client int) api.Errno {
	if !isClient(client) {
		return api.ErrClient
	}
	if !waits(d.waiters, client) {
		return api.ErrIdle
	}
	d.quit(client)
	return api.OK
}

// Crash ends a server, idle or leased (P9).
func (d *Desk) Crash(id int) api.Errno {
	if !isServer(d.servers, id) {
		return api.ErrServer
	}
	d.shut(id)
	d.serve()
	return api.OK
}
