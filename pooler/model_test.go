package pooler_test

import (
	"cmp"
	"slices"

	"pooler/api"
)

// model is a second pooler: what P6 to P9 and P11 to P13 say, written by other means, and held against the program.
type model struct {
	table   api.Table
	servers map[int]*api.Server
	line    []*api.Waiter
	opened  int
	steps   []api.Step
	begun   bool
	back    bool
	home    api.Table
}

func newModel(t api.Table) *model {
	return &model{table: api.Table{Budget: t.Budget, Pools: slices.Clone(t.Pools)}, servers: map[int]*api.Server{}}
}

func (m *model) show() api.State {
	s := api.State{Table: api.Table{Budget: m.table.Budget, Pools: slices.Clone(m.table.Pools)}}
	for _, server := range m.servers {
		s.Servers = append(s.Servers, *server)
	}
	slices.SortFunc(s.Servers, func(a, b api.Server) int { return cmp.Compare(a.Id, b.Id) })
	for _, w := range m.line {
		s.Waiters = append(s.Waiters, *w)
	}
	s.Plan, s.Begun, s.Back = slices.Clone(m.steps), m.begun, m.back
	return s
}

func (m *model) pool(name string) *api.Pool {
	for i := range m.table.Pools {
		if m.table.Pools[i].Name == name {
			return &m.table.Pools[i]
		}
	}
	return nil
}

// those are the servers that a test holds for, by their Ids.
func (m *model) those(holds func(*api.Server) bool) []*api.Server {
	found := []*api.Server{}
	for _, s := range m.servers {
		if holds(s) {
			found = append(found, s)
		}
	}
	slices.SortFunc(found, func(a, b *api.Server) int { return cmp.Compare(a.Id, b.Id) })
	return found
}

func (m *model) of(name string) []*api.Server {
	return m.those(func(s *api.Server) bool { return s.Pool == name })
}

func (m *model) held(client int) *api.Server {
	found := m.those(func(s *api.Server) bool { return s.Client == client })
	if len(found) == 0 {
		return nil
	}
	return found[0]
}

func (m *model) place(client int) int {
	return slices.IndexFunc(m.line, func(w *api.Waiter) bool { return w.Client == client })
}

// way is how a waiter can be served: 0 not at all, else by the first, second or third means of P7.
func (m *model) way(w *api.Waiter) int {
	p := m.pool(w.Pool)
	if p == nil {
		return 0
	}
	idle := m.those(func(s *api.Server) bool { return s.Client == 0 })
	idleHere := m.those(func(s *api.Server) bool { return s.Client == 0 && s.Pool == p.Name })
	fewer := len(m.of(p.Name)) < p.Size
	switch {
	case len(idleHere) > 0:
		return 1
	case fewer && len(m.servers) < m.table.Budget:
		return 2
	case fewer && len(m.servers) == m.table.Budget && len(idle) > 0:
		return 3
	}
	return 0
}

func (m *model) serve() {
	at := slices.IndexFunc(m.line, func(w *api.Waiter) bool { return m.way(w) > 0 })
	if at < 0 {
		return
	}
	w := m.line[at]
	way := m.way(w)
	if way == 1 {
		m.those(func(s *api.Server) bool { return s.Client == 0 && s.Pool == w.Pool })[0].Client = w.Client
	}
	if way == 3 {
		delete(m.servers, m.those(func(s *api.Server) bool { return s.Client == 0 })[0].Id)
	}
	if way == 2 || way == 3 {
		m.opened++
		m.servers[m.opened] = &api.Server{Id: m.opened, Pool: w.Pool, Far: m.pool(w.Pool).Far, Client: w.Client}
	}
	m.line = slices.Delete(m.line, at, at+1)
	m.serve()
}

func (m *model) surplus(s *api.Server) bool {
	p := m.pool(s.Pool)
	return p == nil || p.Far != s.Far || len(m.of(s.Pool)) > p.Size || len(m.servers) > m.table.Budget
}

func (m *model) ask(client int, name string) (int, api.Errno) {
	if client < 1 || client > 99 {
		return 0, api.ErrClient
	}
	if m.held(client) != nil || m.place(client) >= 0 {
		return 0, api.ErrBusy
	}
	p := m.pool(name)
	if p == nil {
		return 0, api.ErrPool
	}
	m.line = append(m.line, &api.Waiter{Client: client, Pool: name})
	m.serve()
	if s := m.held(client); s != nil {
		return s.Id, api.OK
	}
	waiting := 0
	for _, w := range m.line {
		if w.Pool == name {
			waiting++
		}
	}
	if waiting > p.Wait {
		at := m.place(client)
		m.line = slices.Delete(m.line, at, at+1)
		return 0, api.ErrFull
	}
	return 0, api.OK
}

func (m *model) done(client int) api.Errno {
	if client < 1 || client > 99 {
		return api.ErrClient
	}
	s := m.held(client)
	if s == nil {
		return api.ErrIdle
	}
	s.Client = 0
	if m.surplus(s) {
		delete(m.servers, s.Id)
	}
	m.serve()
	return api.OK
}

func (m *model) leave(client int) api.Errno {
	if client < 1 || client > 99 {
		return api.ErrClient
	}
	at := m.place(client)
	if at < 0 {
		return api.ErrIdle
	}
	m.line = slices.Delete(m.line, at, at+1)
	return api.OK
}

func (m *model) crash(id int) api.Errno {
	if m.servers[id] == nil {
		return api.ErrServer
	}
	delete(m.servers, id)
	m.serve()
	return api.OK
}

// start makes steps the plan; if there are none, it is none.
func (m *model) start(steps []api.Step, back bool) int {
	m.steps, m.begun, m.back = steps, false, back && len(steps) > 0
	return len(steps)
}

func (m *model) reload(text string) (int, api.Errno, int) {
	if len(m.steps) > 0 {
		return 0, api.ErrPlan, 0
	}
	goal, e, line := oracleCompile(text)
	if e != api.OK {
		return 0, e, line
	}
	m.home = api.Table{Budget: m.table.Budget, Pools: slices.Clone(m.table.Pools)}
	return m.start(modelDiff(m.table, goal), false), api.OK, 0
}

func (m *model) abort() (int, api.Errno) {
	if len(m.steps) == 0 {
		return 0, api.ErrIdle
	}
	if m.back {
		return 0, api.ErrBack
	}
	return m.start(modelDiff(m.table, m.home), true), api.OK
}

func (m *model) turn() (int, api.Errno) {
	if len(m.steps) == 0 {
		return 0, api.ErrIdle
	}
	step := m.steps[0]
	if !m.begun {
		m.table = taken(m.table, m.steps[:1])
		m.effect(step)
	}
	m.begun = true
	m.serve()
	if m.isDone(step) {
		m.start(m.steps[1:], m.back)
	}
	return len(m.steps), api.OK
}

// effect is what a step does to servers and to the line as it begins.
func (m *model) effect(step api.Step) {
	idle := m.those(func(s *api.Server) bool { return s.Client == 0 && (step.Name == "" || s.Pool == step.Name) })
	slices.Reverse(idle)
	waiting := 0
	for _, w := range m.line {
		if w.Pool == step.Name {
			waiting++
		}
	}
	for _, s := range idle {
		if step.Kind == api.Drop || step.Kind == api.Move && s.Far != step.N || (step.Kind == api.Shrink || step.Kind == api.Cut) && !m.isDone(step) {
			delete(m.servers, s.Id)
		}
	}
	for at := len(m.line) - 1; at >= 0; at-- {
		if m.line[at].Pool == step.Name && (step.Kind == api.Drop || step.Kind == api.Hold && waiting > step.N) {
			m.line = slices.Delete(m.line, at, at+1)
			waiting--
		}
	}
}

func (m *model) isDone(step api.Step) bool {
	switch step.Kind {
	case api.Shrink, api.Drop:
		return len(m.of(step.Name)) <= step.N
	case api.Cut:
		return len(m.servers) <= step.N
	case api.Move:
		return !slices.ContainsFunc(m.of(step.Name), func(s *api.Server) bool { return s.Far != step.N })
	}
	return true
}

// modelDiff gathers what P10 says in whatever order it comes, and sorts it.
func modelDiff(a, b api.Table) []api.Step {
	was, will := byName(a.Pools), byName(b.Pools)
	steps := map[api.Step]bool{
		{Kind: api.Cut, N: b.Budget}:   b.Budget < a.Budget,
		{Kind: api.Raise, N: b.Budget}: b.Budget > a.Budget,
	}
	for name := range was {
		if _, stays := will[name]; !stays {
			steps[api.Step{Kind: api.Drop, Name: name}] = true
		}
	}
	for name, p := range will {
		old, both := was[name]
		steps[api.Step{Kind: api.Add, Name: name}] = !both
		steps[api.Step{Kind: api.Shrink, Name: name, N: p.Size}] = both && p.Size < old.Size
		steps[api.Step{Kind: api.Grow, Name: name, N: p.Size}] = p.Size > old.Size
		steps[api.Step{Kind: api.Move, Name: name, N: p.Far}] = p.Far != old.Far
		steps[api.Step{Kind: api.Hold, Name: name, N: p.Wait}] = p.Wait != old.Wait
	}
	found := []api.Step{}
	for step, wanted := range steps {
		if wanted {
			found = append(found, step)
		}
	}
	slices.SortFunc(found, func(a, b api.Step) int {
		return cmp.Or(cmp.Compare(a.Kind, b.Kind), cmp.Compare(a.Name, b.Name))
	})
	return found
}

func byName(pools []api.Pool) map[string]api.Pool {
	named := map[string]api.Pool{}
	for _, p := range pools {
		named[p.Name] = p
	}
	return named
}
