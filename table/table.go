// Package table: what a table is, and its text.
package table

import "pooler/api"

// IsTable tells whether t is a table.
func IsTable(t api.Table) bool {
	if !Fits(Budget, t.Budget) || len(t.Pools) > api.MaxPools {
		return false
	}
	// No name is below the empty one, so the first pool need not be told apart.
	last := ""
	for i := 0; i < len(t.Pools); i++ {
		if !isPool(t.Pools[i]) || t.Pools[i].Name <= last {
			return false
		}
		last = t.Pools[i].Name
	}
	return true
}

func isPool(p api.Pool) bool {
	if !IsName(p.Name) {
		return false
	}
	if !Fits(Size, p.Size) {
		return false
	}
	if !Fits(Wait, p.Wait) {
		return false
	}
	return Fits(Far, p.Far)
}

// Insert answers a fresh list: the pools, whose names rise, and p at its place among them.
func Insert(pools []api.Pool, p api.Pool) []api.Pool {
	longer := []api.Pool{}
	placed := false
	for i := 0; i < len(pools); i++ {
		if !placed && p.Name < pools[i].Name {
			longer = append(longer, p)
			placed = true
		}
		longer = append(longer, pools[i])
	}
	if !placed {
		longer = append(longer, p)
	}
	return longer
}

// Without answers a fresh list: the pools, but for the one of this name.
func Without(pools []api.Pool, name string) []api.Pool {
	others := []api.Pool{}
	for i := 0; i < len(pools); i++ {
		if pools[i].Name != name {
			others = append(others, pools[i])
		}
	}
	return others
}

// Find is the pool of this name; false: there is none.
func Find(pools []api.Pool, name string) (api.Pool, bool) {
	for i := 0; i < len(pools); i++ {
		if pools[i].Name == name {
			return pools[i], true
		}
	}
	return api.Pool{}, false
}

// Has tells whether there is a pool of this name.
func Has(pools []api.Pool, name string) bool {
	for i := 0; i < len(pools); i++ {
		if pools[i].Name == name {
			return true
		}
	}
	return false
}

// Copy is the same table, with a list of its own.
func Copy(t api.Table) api.Table {
	pools := append([]api.Pool{}, t.Pools...)
	return api.Table{Budget: t.Budget, Pools: pools}
}
