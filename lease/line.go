package lease

import "pooler/api"

func waits(waiters []api.Waiter, client int) bool {
	for i := 0; i < len(waiters); i++ {
		if waiters[i].Client == client {
			return true
		}
	}
	return false
}

// waitersFor is how many wait for a pool.
func waitersFor(waiters []api.Waiter, pool string) int {
	count := 0
	for i := 0; i < len(waiters); i++ {
		if waiters[i].Pool == pool {
			count++
		}
	}
	return count
}

// lastWaiterFor is the one who came last of those who wait for a pool; where there is none, its Client is no client.
func lastWaiterFor(waiters []api.Waiter, pool string) api.Waiter {
	last := api.Waiter{}
	for i := 0; i < len(waiters); i++ {
		if waiters[i].Pool == pool {
			last = waiters[i]
		}
	}
	return last
}

func (d *Desk) join(client int, pool string) {
	d.waiters = append(d.waiters, api.Waiter{Client: client, Pool: pool})
}

func (d *Desk) quit(client int) {
	left := []api.Waiter{}
	for i := 0; i < len(d.waiters); i++ {
		if d.waiters[i].Client != client {
			left = append(left, d.waiters[i])
		}
	}
	d.waiters = left
}
