// Package pooler: pools of servers, laid out by a text, and taken over from one text to another: see DOC.md.
package pooler

import (
	"pooler/api"
	"pooler/layout"
	"pooler/lease"
	"pooler/plan"
	"pooler/table"
)

// Pooler is some pools, their servers, and who waits.
type Pooler struct {
	desk lease.Desk
	way  plan.Way
}

// Compile makes the table of a text; with an error, the line (P3, P4).
func Compile(text string) (api.Table, api.Errno, int) { return layout.Compile(text) }

// Print writes a table as a text (P5).
func Print(t api.Table) (string, api.Errno) { return table.Print(t) }

// New begins with the table of a text (P6).
func New(text string) (*Pooler, api.Errno, int) {
	t, e, line := layout.Compile(text)
	if e != api.OK {
		return nil, e, line
	}
	return &Pooler{desk: lease.Open(t)}, api.OK, 0
}

// Show tells all that there is (P6).
func (p *Pooler) Show() api.State {
	s := p.desk.Show()
	s.Plan = p.way.Steps()
	s.Begun = p.way.HasBegun()
	s.Back = p.way.IsBack()
	return s
}

// Ask wants a server for a client (P8).
func (p *Pooler) Ask(client int, pool string) (int, api.Errno) { return p.desk.Ask(client, pool) }

// Done ends a client's lease (P9).
func (p *Pooler) Done(client int) api.Errno { return p.desk.Done(client) }

// Leave ends a client's waiting (P9).
func (p *Pooler) Leave(client int) api.Errno { return p.desk.Leave(client) }

// Crash ends a server (P9).
func (p *Pooler) Crash(id int) api.Errno { return p.desk.Crash(id) }

// Diff makes the steps from one table to another (P10).
func Diff(a api.Table, b api.Table) ([]api.Step, api.Errno) { return plan.Diff(a, b) }

// Reload plans the way to the table of a text (P11).
func (p *Pooler) Reload(text string) (int, api.Errno, int) {
	if p.way.Left() > 0 {
		return 0, api.ErrPlan, 0
	}
	goal, e, line := layout.Compile(text)
	if e != api.OK {
		return 0, e, line
	}
	now := p.desk.Table()
	p.way = plan.Forth(now, goal)
	return p.way.Left(), api.OK, 0
}

// Turn goes on with the plan (P12).
func (p *Pooler) Turn() (int, api.Errno) {
	if p.way.Left() == 0 {
		return 0, api.ErrIdle
	}
	step := p.way.First()
	begun := p.way.HasBegun()
	done := p.desk.Turn(step, begun)
	p.way.Turned(done)
	return p.way.Left(), api.OK
}

// Abort plans the way back (P13).
func (p *Pooler) Abort() (int, api.Errno) {
	if p.way.Left() == 0 {
		return 0, api.ErrIdle
	}
	if p.way.IsBack() {
		return 0, api.ErrBack
	}
	now := p.desk.Table()
	p.way = p.way.Back(now)
	return p.way.Left(), api.OK
}
