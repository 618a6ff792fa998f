package pooler_test

import (
	"fmt"
	"math/rand"
	"slices"
	"strings"
	"testing"

	"pooler/api"
)

// poolOf is the pool of this name; where there is none, it is one without Size.
func poolOf(t api.Table, name string) (api.Pool, bool) {
	p, ok := byName(t.Pools)[name]
	return p, ok
}

func serversOf(s api.State, name string) int {
	count := 0
	for _, v := range s.Servers {
		if v.Pool == name {
			count++
		}
	}
	return count
}

func isSurplus(s api.State, v api.Server) bool {
	p, ok := poolOf(s.Table, v.Pool)
	return !ok || v.Far != p.Far || serversOf(s, v.Pool) > p.Size || len(s.Servers) > s.Table.Budget
}

// canBeServed is P7's, with what is shown alone.
func canBeServed(s api.State, w api.Waiter) bool {
	p, ok := poolOf(s.Table, w.Pool)
	if !ok {
		return false
	}
	idle := false
	for _, v := range s.Servers {
		if v.Client == 0 && v.Pool == w.Pool {
			return true
		}
		idle = idle || v.Client == 0
	}
	room := len(s.Servers) < s.Table.Budget || len(s.Servers) == s.Table.Budget && idle
	return room && serversOf(s, w.Pool) < p.Size
}

func isLeased(s api.State) bool {
	return slices.ContainsFunc(s.Servers, func(v api.Server) bool { return v.Client != 0 })
}

// lawful holds what is there behind a call against P14. The lease over, which names a client or an Id, may end; no other.
func (d *desk) lawful(before, after api.State, over api.Server) {
	d.t.Helper()
	for _, v := range before.Servers {
		if v.Client != 0 && v.Client != over.Client && v.Id != over.Id && !slices.Contains(after.Servers, v) {
			d.t.Fatalf("%s: client %d lost server %d", d.calls, v.Client, v.Id)
		}
	}
	for _, v := range after.Servers {
		was, _ := poolOf(d.home, v.Pool)
		will, _ := poolOf(d.goal, v.Pool)
		if serversOf(after, v.Pool) > max(was.Size, will.Size) {
			d.t.Fatalf("%s: %d servers of %s", d.calls, serversOf(after, v.Pool), v.Pool)
		}
		if isSurplus(after, v) && (v.Client == 0 || len(after.Plan) == 0) {
			d.t.Fatalf("%s: server %d is surplus: %+v", d.calls, v.Id, after)
		}
	}
	for _, w := range after.Waiters {
		if canBeServed(after, w) {
			d.t.Fatalf("%s: client %d waits: %+v", d.calls, w.Client, after)
		}
	}
	if len(after.Servers) > max(d.home.Budget, d.goal.Budget) {
		d.t.Fatalf("%s: %d servers", d.calls, len(after.Servers))
	}
	if len(after.Plan) == 0 && (!same(after.Table, d.rest) || after.Begun || after.Back) {
		d.t.Fatalf("%s: no plan is on its way, and there is %+v, want %+v in force", d.calls, after, d.rest)
	}
}

func TestP14EveryStepIsTakenWithoutLeases(t *testing.T) {
	r := rand.New(rand.NewSource(12))
	for i := 0; i < 1000; i++ {
		d := begin(t, randomLayout(r))
		for client := 1; client <= 8; client++ {
			d.ask(client, pick(r, "a", "b", "c", "d"))
		}
		d.reload(randomLayout(r))
		for n := r.Intn(4); n > 0; n-- {
			d.turn()
		}
		if r.Intn(2) == 0 {
			d.abort()
		}
		// Those who wait stay in the line; whenever one of them is served, the lease ends ahead of the next Turn.
		for len(d.m.steps) > 0 {
			for s := d.p.Show(); isLeased(s); s = d.p.Show() {
				for client := 1; client <= 8; client++ {
					d.done(client)
				}
			}
			left := len(d.m.steps)
			d.turns(left - 1)
		}
		d.inForce(d.rest)
	}
}

// randomLayout has some of a few pools, so that of two such texts some pools go and some come.
func randomLayout(r *rand.Rand) string {
	text := fmt.Sprintf("budget %d", 1+r.Intn(6))
	for _, name := range strings.Split("abcd", "") {
		if r.Intn(4) > 0 {
			text += fmt.Sprintf("|pool %s size %d wait %d far %d", name, r.Intn(4), r.Intn(4), r.Intn(3))
		}
	}
	return text
}

// anyCall is a randomCall mostly, else one of plans; it answers its kind and error.
func anyCall(d *desk, r *rand.Rand) (int, api.Errno) {
	d.t.Helper()
	switch r.Intn(20) {
	case 0, 1:
		text := randomLayout(r)
		if r.Intn(4) == 0 {
			text = randomText(r)
		}
		_, e, _ := d.reload(text)
		return 4, e
	case 2, 3, 4, 5, 6, 7:
		_, e := d.turn()
		return 5, e
	case 8:
		_, e := d.abort()
		return 6, e
	case 9:
		_, e := d.ask(1+r.Intn(12), pick(r, "a", "b", "c", "d"))
		return 0, e
	}
	return randomCall(d, r)
}

func TestP6ToP14AgainstTheModel(t *testing.T) {
	r := rand.New(rand.NewSource(13))
	met := [7][18]int{}
	halfWay := map[string]int{}
	for i := 0; i < 3000; i++ {
		d := begin(t, randomLayout(r))
		for n := 0; n < 100; n++ {
			before := d.p.Show()
			kind, e := anyCall(d, r)
			met[kind][e]++
			if before.Begun {
				halfWay[fmt.Sprintf("%s, back %v, call %d", kindNames[before.Plan[0].Kind], before.Back, kind)]++
			}
		}
	}
	for kind, errors := range [7][]api.Errno{
		{api.OK, api.ErrClient, api.ErrBusy, api.ErrPool, api.ErrFull}, {api.OK, api.ErrClient, api.ErrIdle}, {api.OK, api.ErrClient, api.ErrIdle}, {api.OK, api.ErrServer},
		{api.OK, api.ErrPlan, api.ErrForm, api.ErrNumber}, {api.OK, api.ErrIdle}, {api.OK, api.ErrIdle, api.ErrBack},
	} {
		for _, e := range errors {
			if met[kind][e] < 100 {
				t.Errorf("call %d answered %d only %d times: the calls do not try it", kind, e, met[kind][e])
			}
		}
	}
	for _, step := range []int{api.Shrink, api.Drop, api.Cut, api.Move} {
		for _, back := range []bool{false, true} {
			for kind := range met {
				if what := fmt.Sprintf("%s, back %v, call %d", kindNames[step], back, kind); halfWay[what] < 5 {
					t.Errorf("%s: %d times alone", what, halfWay[what])
				}
			}
		}
	}
}
