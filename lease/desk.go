// Package lease: the servers of the pools in force, who has leased them, and who waits for them.
package lease

import (
	"pooler/api"
	"pooler/table"
)

// Desk is where clients come for servers. Its lists are its own: nobody else has them.
type Desk struct {
	table   api.Table
	servers []api.Server // by their Ids
	waiters []api.Waiter // in the order in which they came
	opened  int          // how many servers were opened so far, which is the last one's Id
}

// Open is a desk with this table in force, without servers and without anyone who waits.
func Open(t api.Table) Desk {
	return Desk{table: table.Copy(t)}
}

// Show tells the table, the servers and those who wait, in lists that are the caller's.
func (d *Desk) Show() api.State {
	s := api.State{}
	s.Table = table.Copy(d.table)
	s.Servers = append([]api.Server{}, d.servers...)
	s.Waiters = append([]api.Waiter{}, d.waiters...)
	return s
}

// Table is the table in force, with a list that is the caller's.
func (d *Desk) Table() api.Table { return table.Copy(d.table) }
