package lease

import (
	"slices"
	"testing"

	"pooler/api"
)

// deskOf is a desk in the midst of things, such as a change of the table in force leaves it.
func deskOf(budget int, pools []api.Pool, servers []api.Server, waiters []api.Waiter) *Desk {
	d := Open(api.Table{Budget: budget, Pools: pools})
	d.servers = slices.Clone(servers)
	d.waiters = slices.Clone(waiters)
	for _, s := range servers {
		d.opened = max(d.opened, s.Id)
	}
	return &d
}

func (d *Desk) check(t *testing.T, what string, servers []api.Server, waiters []api.Waiter) {
	t.Helper()
	s := d.Show()
	if !slices.Equal(s.Servers, servers) || !slices.Equal(s.Waiters, waiters) {
		t.Errorf("%s: servers %v, line %v, want %v, %v", what, s.Servers, s.Waiters, servers, waiters)
	}
}

func TestOpenKeepsNoList(t *testing.T) {
	pools := []api.Pool{{Name: "a", Size: 1}, {Name: "b"}}
	d := Open(api.Table{Budget: 1, Pools: pools})
	pools[0] = api.Pool{Name: "x"}
	if s := d.Show(); s.Table.Budget != 1 || len(s.Table.Pools) != 2 || s.Table.Pools[0] != (api.Pool{Name: "a", Size: 1}) {
		t.Errorf("Open kept the list: %+v", s.Table)
	}
}

func TestP7SeveralAreServed(t *testing.T) {
	pools := []api.Pool{{Name: "a", Size: 2, Far: 8}, {Name: "b", Size: 3}, {Name: "c", Size: 9}}
	d := deskOf(5, pools,
		[]api.Server{{Id: 3, Pool: "b"}, {Id: 5, Pool: "a", Far: 8, Client: 50}, {Id: 6, Pool: "c"}},
		[]api.Waiter{{Client: 1, Pool: "a"}, {Client: 2, Pool: "a"}, {Client: 3, Pool: "b"}, {Client: 4, Pool: "b"}, {Client: 5, Pool: "b"}, {Client: 6, Pool: "b"}, {Client: 7, Pool: "c"}})
	d.serve()
	// 1 opens; 2 can't; 3 takes what is idle; 4 opens; 5 has the idle one of c closed; 6 and 7 find no room.
	d.check(t, "serve",
		[]api.Server{{Id: 3, Pool: "b", Client: 3}, {Id: 5, Pool: "a", Far: 8, Client: 50}, {Id: 7, Pool: "a", Far: 8, Client: 1}, {Id: 8, Pool: "b", Client: 4}, {Id: 9, Pool: "b", Client: 5}},
		[]api.Waiter{{Client: 2, Pool: "a"}, {Client: 6, Pool: "b"}, {Client: 7, Pool: "c"}})
}

func TestP7APoolThatIsNotInForce(t *testing.T) {
	servers := []api.Server{{Id: 1, Pool: "gone"}}
	waiters := []api.Waiter{{Client: 1, Pool: "gone"}, {Client: 2, Pool: "a"}}
	d := deskOf(5, []api.Pool{{Name: "a", Size: 1}}, servers, waiters)
	d.serve()
	d.check(t, "serve", []api.Server{{Id: 1, Pool: "gone"}, {Id: 2, Pool: "a", Client: 2}}, waiters[:1])
}

func TestP7AboveTheBudget(t *testing.T) {
	pools := []api.Pool{{Name: "a", Size: 9}, {Name: "b", Size: 9}}
	servers := []api.Server{{Id: 1, Pool: "a", Client: 7}, {Id: 2, Pool: "a"}, {Id: 3, Pool: "a", Client: 8}}
	waiters := []api.Waiter{{Client: 1, Pool: "b"}}
	// An idle one is closed for another pool at the Budget, but not above it.
	d := deskOf(2, pools, servers, waiters)
	d.serve()
	d.check(t, "above", servers, waiters)
	d = deskOf(3, pools, servers, waiters)
	d.serve()
	d.check(t, "at", []api.Server{servers[0], servers[2], {Id: 4, Pool: "b", Client: 1}}, nil)
}

func TestP7AboveTheSize(t *testing.T) {
	servers := []api.Server{{Id: 1, Pool: "a", Client: 7}, {Id: 2, Pool: "a", Client: 8}}
	waiters := []api.Waiter{{Client: 1, Pool: "a"}}
	d := deskOf(9, []api.Pool{{Name: "a", Size: 1}}, servers, waiters)
	d.serve()
	d.check(t, "above", servers, waiters)
}

func TestP9Surplus(t *testing.T) {
	servers := []api.Server{{Id: 1, Pool: "a", Far: 5, Client: 1}, {Id: 2, Pool: "a", Far: 5, Client: 2}, {Id: 3, Pool: "b", Client: 3}}
	for _, c := range []struct {
		what   string
		budget int
		pools  []api.Pool
		closed bool
	}{
		{"all is well", 3, []api.Pool{{Name: "a", Size: 2, Far: 5}}, false},
		{"its pool is gone", 3, []api.Pool{{Name: "b", Size: 2, Far: 5}}, true},
		{"there is no pool", 3, nil, true},
		{"its pool is nearer", 3, []api.Pool{{Name: "a", Size: 2, Far: 4}}, true},
		{"its pool is farther", 3, []api.Pool{{Name: "a", Size: 2, Far: 6}}, true},
		{"above the Size", 3, []api.Pool{{Name: "a", Size: 1, Far: 5}}, true},
		{"above the Size 0", 9, []api.Pool{{Name: "a", Size: 0, Far: 5}}, true},
		{"above the Budget", 2, []api.Pool{{Name: "a", Size: 2, Far: 5}}, true},
		{"far above the Budget", 1, []api.Pool{{Name: "a", Size: 9, Far: 5}}, true},
		{"below all", 99, []api.Pool{{Name: "a", Size: 9, Far: 5}}, false},
	} {
		for id := 1; id <= 2; id++ {
			d := deskOf(c.budget, c.pools, servers, nil)
			if e := d.Done(id); e != api.OK {
				t.Errorf("%s: Done(%d) = %d", c.what, id, e)
			}
			want := slices.Clone(servers)
			want[id-1].Client = 0
			if c.closed {
				want = slices.Delete(want, id-1, id)
			}
			d.check(t, c.what, want, nil)
		}
	}
}

func TestP9ASurplusServerGoesToNobody(t *testing.T) {
	pools := []api.Pool{{Name: "a", Size: 1, Far: 6, Wait: 9}, {Name: "b", Size: 1}}
	d := deskOf(2, pools,
		[]api.Server{{Id: 1, Pool: "a", Far: 5, Client: 1}, {Id: 2, Pool: "b", Client: 2}},
		[]api.Waiter{{Client: 3, Pool: "a"}})
	d.Done(1)
	d.check(t, "another Far", []api.Server{{Id: 2, Pool: "b", Client: 2}, {Id: 3, Pool: "a", Far: 6, Client: 3}}, nil)
	d = deskOf(2, pools,
		[]api.Server{{Id: 1, Pool: "a", Far: 6, Client: 1}, {Id: 2, Pool: "b", Client: 2}, {Id: 3, Pool: "b", Client: 4}},
		[]api.Waiter{{Client: 3, Pool: "a"}})
	d.Done(1)
	d.check(t, "above the Budget", []api.Server{{Id: 2, Pool: "b", Client: 2}, {Id: 3, Pool: "b", Client: 4}}, []api.Waiter{{Client: 3, Pool: "a"}})
}

func TestP9CrashBringsRoom(t *testing.T) {
	d := deskOf(2, []api.Pool{{Name: "a", Size: 2}},
		[]api.Server{{Id: 1, Pool: "gone", Client: 1}, {Id: 2, Pool: "a", Client: 2}},
		[]api.Waiter{{Client: 3, Pool: "a"}, {Client: 4, Pool: "a"}})
	if e := d.Crash(1); e != api.OK {
		t.Errorf("Crash(1) = %d", e)
	}
	d.check(t, "Crash", []api.Server{{Id: 2, Pool: "a", Client: 2}, {Id: 3, Pool: "a", Client: 3}}, []api.Waiter{{Client: 4, Pool: "a"}})
}

func TestP12AStepTakesEffectOnceAndServesAlways(t *testing.T) {
	pools := []api.Pool{{Name: "a", Size: 2}, {Name: "b", Size: 1}}
	servers := []api.Server{{Id: 1, Pool: "a", Client: 1}, {Id: 2, Pool: "a"}}
	waiters := []api.Waiter{{Client: 3, Pool: "b"}}
	d := deskOf(9, pools, servers, waiters)
	if d.Turn(api.Step{Kind: api.Shrink, Name: "a", N: 1}, true) {
		t.Error("Shrink is done with a server too many")
	}
	d.check(t, "begun", []api.Server{servers[0], servers[1], {Id: 3, Pool: "b", Client: 3}}, nil)
	d = deskOf(9, pools, servers, waiters)
	if !d.Turn(api.Step{Kind: api.Shrink, Name: "a", N: 1}, false) {
		t.Error("Shrink is not done")
	}
	d.check(t, "not begun", []api.Server{servers[0], {Id: 3, Pool: "b", Client: 3}}, nil)
	if got := d.Table().Pools[0].Size; got != 1 {
		t.Errorf("the Size is %d", got)
	}
}

func TestP12WhatMakesAStepDone(t *testing.T) {
	servers := []api.Server{{Id: 1, Pool: "a", Far: 5, Client: 1}, {Id: 2, Pool: "b", Far: 6, Client: 2}, {Id: 3, Pool: "a", Far: 5, Client: 3}}
	for _, c := range []struct {
		step api.Step
		done bool
	}{
		{api.Step{Kind: api.Shrink, Name: "a", N: 1}, false}, {api.Step{Kind: api.Shrink, Name: "a", N: 2}, true}, {api.Step{Kind: api.Shrink, Name: "b", N: 1}, true}, {api.Step{Kind: api.Shrink, Name: "b", N: 0}, false},
		{api.Step{Kind: api.Drop, Name: "a"}, false}, {api.Step{Kind: api.Drop, Name: "b"}, false}, {api.Step{Kind: api.Drop, Name: "c"}, true},
		{api.Step{Kind: api.Cut, N: 2}, false}, {api.Step{Kind: api.Cut, N: 3}, true}, {api.Step{Kind: api.Cut, N: 4}, true},
		{api.Step{Kind: api.Add, Name: "c"}, true},
		{api.Step{Kind: api.Move, Name: "a", N: 5}, true}, {api.Step{Kind: api.Move, Name: "a", N: 6}, false}, {api.Step{Kind: api.Move, Name: "b", N: 5}, false}, {api.Step{Kind: api.Move, Name: "c", N: 5}, true},
		{api.Step{Kind: api.Hold, Name: "a", N: 0}, true}, {api.Step{Kind: api.Raise, N: 9}, true}, {api.Step{Kind: api.Grow, Name: "a", N: 9}, true},
	} {
		d := deskOf(1, nil, servers, nil)
		if got := d.Turn(c.step, true); got != c.done {
			t.Errorf("%+v is done: %v", c.step, got)
		}
		d.check(t, "a lease", servers, nil)
	}
}

func TestTableIsTheCallers(t *testing.T) {
	d := deskOf(1, []api.Pool{{Name: "a"}}, nil, nil)
	d.Table().Pools[0].Name = "spoilt"
	if got := d.Table(); got.Budget != 1 || len(got.Pools) != 1 || got.Pools[0].Name != "a" {
		t.Errorf("the table became %+v", got)
	}
}
