package pooler_test

import (
	"fmt"
	"math/rand"
	"slices"
	"strings"
	"testing"

	"pooler/api"
	"pooler/pooler"
)

func (d *desk) reload(text string) (int, api.Errno, int) {
	d.t.Helper()
	text = bars(text)
	before := d.p.Show()
	n, e, line := d.p.Reload(text)
	wantN, wantE, wantLine := d.m.reload(text)
	if e == api.OK {
		d.home = before.Table
		d.goal, _, _ = oracleCompile(text)
		d.rest = d.goal
	}
	d.end(fmt.Sprintf("Reload(%.200q)", text), before, api.Server{}, n, wantN, e, wantE)
	if line != wantLine {
		d.t.Fatalf("%s: line %d, want %d", d.calls, line, wantLine)
	}
	return n, e, line
}

func (d *desk) turn() (int, api.Errno) {
	d.t.Helper()
	before := d.p.Show()
	n, e := d.p.Turn()
	wantN, wantE := d.m.turn()
	d.end("Turn()", before, api.Server{}, n, wantN, e, wantE)
	if e == api.OK && !isLeased(before) && n != len(before.Plan)-1 {
		d.t.Fatalf("%s: no server was leased, and of %d steps %d are left", d.calls, len(before.Plan), n)
	}
	return n, e
}

func (d *desk) abort() (int, api.Errno) {
	d.t.Helper()
	before := d.p.Show()
	n, e := d.p.Abort()
	wantN, wantE := d.m.abort()
	if e == api.OK {
		d.rest = d.home
	}
	d.end("Abort()", before, api.Server{}, n, wantN, e, wantE)
	return n, e
}

// reloads, turns and aborts hold an answer against what the document says itself, not against the model alone.
func (d *desk) reloads(text string, n int, e api.Errno, line int) {
	d.t.Helper()
	if gotN, gotE, gotLine := d.reload(text); gotN != n || gotE != e || gotLine != line {
		d.t.Errorf("%s = %d, %d, %d, want %d, %d, %d", d.calls, gotN, gotE, gotLine, n, e, line)
	}
}

func (d *desk) turns(left ...int) {
	d.t.Helper()
	for _, n := range left {
		if gotN, gotE := d.turn(); gotN != n || gotE != api.OK {
			d.t.Errorf("%s = %d, %d, want %d, OK", d.calls, gotN, gotE, n)
		}
	}
}

func (d *desk) noTurn() {
	d.t.Helper()
	if n, e := d.turn(); n != 0 || e != api.ErrIdle {
		d.t.Errorf("%s = %d, %d, want ErrIdle", d.calls, n, e)
	}
}

func (d *desk) aborts(n int, e api.Errno) {
	d.t.Helper()
	if gotN, gotE := d.abort(); gotN != n || gotE != e {
		d.t.Errorf("%s = %d, %d, want %d, %d", d.calls, gotN, gotE, n, e)
	}
}

// plans holds the plan against the document's form; "begun: " and "back: " stand ahead of it.
func (d *desk) plans(want string) {
	d.t.Helper()
	s := d.p.Show()
	got := told(s.Plan)
	if s.Begun {
		got = "begun: " + got
	}
	if s.Back {
		got = "back: " + got
	}
	if got != want {
		d.t.Errorf("%s: the plan is %q, want %q", d.calls, got, want)
	}
}

func (d *desk) inForce(want api.Table) {
	d.t.Helper()
	if got := d.p.Show().Table; !same(got, want) {
		d.t.Errorf("%s: %+v is in force, want %+v", d.calls, got, want)
	}
}

// exampleEight is the pooler of example 5, where it ends.
func exampleEight(t *testing.T) *desk {
	t.Helper()
	d := exampleFive(t)
	d.dones(1, api.OK)
	d.shows("1 app 5 4, 2 app 5 2, 3 web 0 3; 6 web")
	return d
}

const stepsXY = "Shrink app 1, Drop web, Cut 2, Add log, Move app 6, Grow log 1"

func TestP1ErrorsNamedFirstOfPlans(t *testing.T) {
	d := exampleEight(t)
	d.noTurn()
	d.aborts(0, api.ErrIdle)
	d.reloads(textY, 6, api.OK, 0)
	// A plan goes ahead of whatever is wrong with the text.
	for _, text := range []string{"", "x", "budget 100", textX, textY, strings.Repeat("x", 1001)} {
		d.reloads(text, 0, api.ErrPlan, 0)
	}
	d.turns(6)
	d.aborts(1, api.OK)
	d.aborts(0, api.ErrBack)
	d.reloads("", 0, api.ErrPlan, 0)
	d.turns(0)
	d.aborts(0, api.ErrIdle)
}

// wrongCalls are refused whatever plan is on its way, and change nothing.
func wrongCalls(d *desk) {
	d.t.Helper()
	for _, n := range oddNumbers {
		d.asks(n, "app", 0, api.ErrClient)
		d.dones(n, api.ErrClient)
		d.leaves(n, api.ErrClient)
		d.crashes(n, api.ErrServer)
	}
	for _, name := range oddNames {
		d.asks(99, name, 0, api.ErrPool)
	}
	d.dones(99, api.ErrIdle)
	d.leaves(99, api.ErrIdle)
	d.crashes(d.m.opened+1, api.ErrServer)
	for _, text := range []string{"", "budget 0", "budget 1|pool a from b", strings.Repeat(" ", 1001)} {
		if n, e, _ := d.reload(text); n != 0 || e == api.OK {
			d.t.Errorf("%s = %d, %d", d.calls, n, e)
		}
	}
	if len(d.m.steps) == 0 {
		d.noTurn()
		d.aborts(0, api.ErrIdle)
	} else {
		d.reloads(textY, 0, api.ErrPlan, 0)
	}
	if d.m.back {
		d.aborts(0, api.ErrBack)
	}
}

func TestP1WrongCallsBetweenAnyTwoTurns(t *testing.T) {
	for aborted := 0; aborted <= 9; aborted++ {
		d := exampleEight(t)
		wrongCalls(d)
		d.reloads(textY, 6, api.OK, 0)
		for n := 0; len(d.m.steps) > 0; n++ {
			wrongCalls(d)
			if n == aborted {
				d.abort()
				wrongCalls(d)
			}
			if n%3 == 2 {
				d.done(2 + n/3)
			}
			d.turn()
		}
		wrongCalls(d)
	}
}

func TestP2ThePlanOfShowIsFresh(t *testing.T) {
	d := exampleEight(t)
	d.reloads(textY, 6, api.OK, 0)
	for n := 0; len(d.m.steps) > 0; n++ {
		early, late, kept := d.p.Show(), d.p.Show(), d.p.Show()
		want := cloneState(kept)
		spoil(early)
		// What a caller appends lies in the caller's room alone.
		late.Plan = append(late.Plan, api.Step{Kind: 77, Name: "more", N: 77})
		late.Table.Pools = append(late.Table.Pools, pool("more", 7, 7, 7))
		d.look()
		if n == 4 {
			d.abort()
		}
		d.turn()
		if n%2 == 1 {
			d.done(2 + n/2)
		}
		spoil(late)
		d.look()
		if !sameState(kept, want) {
			t.Fatalf("%s: an answer became %+v, it was %+v", d.calls, kept, want)
		}
	}
	d.inForce(tableX)
}

func TestP2ThePlanIsNoListOfDiff(t *testing.T) {
	d := exampleEight(t)
	d.reloads(textY, 6, api.OK, 0)
	compiled, _, _ := pooler.Compile(textY)
	shown := d.p.Show()
	steps, _ := pooler.Diff(shown.Table, compiled)
	if !slices.Equal(steps, shown.Plan) {
		t.Errorf("the plan is %s, want %s", told(shown.Plan), told(steps))
	}
	spoilSteps(steps)
	d.plans(stepsXY)
	if got := told(shown.Plan); got != stepsXY {
		t.Errorf("writing into Diff's steps changed Show's: %s", got)
	}
	spoil(shown)
	spoil(api.State{Table: compiled})
	d.plans(stepsXY)
	differs(t, tableX, tableY, stepsXY)
}

func TestP2PoolersOfOnePlan(t *testing.T) {
	one, two, three := exampleEight(t), exampleEight(t), exampleEight(t)
	one.reloads(textY, 6, api.OK, 0)
	two.noTurn()
	two.reloads(textY, 6, api.OK, 0)
	one.turns(6)
	two.plans(stepsXY)
	two.inForce(tableX)
	two.aborts(0, api.OK)
	one.plans("begun: " + stepsXY)
	one.aborts(1, api.OK)
	one.turns(0)
	three.aborts(0, api.ErrIdle)
	three.reloads("budget 9", 3, api.OK, 0)
	for _, d := range []*desk{one, two} {
		d.look()
		d.inForce(tableX)
		d.noTurn()
	}
	three.plans("Drop app, Drop web, Raise 9")
}

func TestP6ShowTellsThePlan(t *testing.T) {
	d := exampleEight(t)
	d.plans("")
	d.reloads(textY, 6, api.OK, 0)
	d.plans(stepsXY)
	d.turns(6)
	d.plans("begun: " + stepsXY)
	d.dones(2, api.OK)
	// It is Turn that takes a step off, not what makes the step done.
	d.plans("begun: " + stepsXY)
	d.turns(5)
	d.plans("Drop web, Cut 2, Add log, Move app 6, Grow log 1")
	d.turns(5)
	d.plans("begun: Drop web, Cut 2, Add log, Move app 6, Grow log 1")
	d.aborts(4, api.OK)
	d.plans("back: Add web, Hold web 2, Grow app 2, Grow web 1")
	d.turns(3, 2, 1)
	d.plans("back: Grow web 1")
	d.turns(0)
	d.plans("")
	// On the way back a step may have to wait too.
	d = begin(t, "budget 9|pool a")
	d.reloads("budget 9|pool a size 2|pool b", 3, api.OK, 0)
	d.turns(2, 1)
	d.asks(1, "a", 1, api.OK)
	d.asks(2, "a", 2, api.OK)
	d.aborts(2, api.OK)
	d.plans("back: Shrink a 1, Drop b")
	d.turns(2)
	d.plans("back: begun: Shrink a 1, Drop b")
	d.crashes(1, api.OK)
	d.turns(1, 0)
	d.plans("")
}

func TestP11Reload(t *testing.T) {
	d := exampleEight(t)
	d.reloads(textY, 6, api.OK, 0)
	// Reload alone changes nothing but the plan.
	d.inForce(tableX)
	d.shows("1 app 5 4, 2 app 5 2, 3 web 0 3; 6 web")
	d.plans(stepsXY)
	d.asks(7, "web", 0, api.OK)
	d.asks(8, "log", 0, api.ErrPool)
	d.dones(2, api.OK)
	d.shows("1 app 5 4, 2 app 5 -, 3 web 0 3; 6 web, 7 web")
	d.plans(stepsXY)
}

func TestP11WithoutAStep(t *testing.T) {
	d := exampleEight(t)
	other := "|budget 003|pool app size 2 far 5 wait 1||pool web wait 2|base unused"
	for _, text := range []string{textX, other, textX} {
		d.reloads(text, 0, api.OK, 0)
		d.plans("")
		d.inForce(tableX)
		d.shows("1 app 5 4, 2 app 5 2, 3 web 0 3; 6 web")
		d.noTurn()
		d.aborts(0, api.ErrIdle)
	}
	d.reloads(textY, 6, api.OK, 0)
	d = begin(t, "budget 1")
	d.reloads("budget 1", 0, api.OK, 0)
	d.noTurn()
	d.reloads("budget 2", 1, api.OK, 0)
	d.turns(0)
	d.noTurn()
	d.reloads("budget 2", 0, api.OK, 0)
}

func TestP11OfATextThatIsRefused(t *testing.T) {
	d := exampleEight(t)
	for _, c := range []struct {
		text string
		e    api.Errno
		line int
	}{
		{strings.Repeat(" ", 1001), api.ErrLong, 0}, {"", api.ErrForm, 1}, {"||", api.ErrForm, 3}, {"budget 1|budget 1", api.ErrForm, 2}, {"budget 100", api.ErrNumber, 1},
		{"budget 1|pool a|pool b|pool c|pool d|pool e|pool f|pool g", api.ErrMany, 8}, {"budget 1||pool a|pool a", api.ErrTwice, 4}, {"budget 1|pool a from b", api.ErrBase, 2},
		{"budget 1|pool p from a|base a from b|base b from a", api.ErrLoop, 2}, {"budget 1|base a from b|base b from c|base c from d|base d|pool p from a", api.ErrDeep, 6},
	} {
		d.reloads(c.text, 0, c.e, c.line)
		d.plans("")
		d.inForce(tableX)
		d.noTurn()
		d.aborts(0, api.ErrIdle)
	}
	d.reloads(textY, 6, api.OK, 0)
}

func TestP11AnswersAsCompile(t *testing.T) {
	r := rand.New(rand.NewSource(11))
	for i := 0; i < 3000; i++ {
		d := exampleEight(t)
		text := randomText(r)
		_, e, _ := d.reload(text)
		want, wantE, _ := oracleCompile(text)
		if e != wantE {
			t.Fatalf("%s = %d, want %d", d.calls, e, wantE)
		}
		if e == api.OK {
			d.plans(told(modelDiff(tableX, want)))
		}
	}
}

func TestP11WhileAPlanIsOnItsWay(t *testing.T) {
	d := exampleEight(t)
	d.reloads(textY, 6, api.OK, 0)
	for _, text := range []string{textX, textY, "budget 1", ""} {
		d.reloads(text, 0, api.ErrPlan, 0)
	}
	d.plans(stepsXY)
	d.turns(6)
	d.reloads(textX, 0, api.ErrPlan, 0)
	d.plans("begun: " + stepsXY)
	d.dones(2, api.OK)
	d.dones(3, api.OK)
	d.dones(4, api.OK)
	d.dones(6, api.OK)
	for left := 5; left >= 0; left-- {
		d.reloads(textX, 0, api.ErrPlan, 0)
		d.turns(left)
	}
	// Behind it there is room for another.
	d.reloads(textX, 7, api.OK, 0)
	d.aborts(0, api.OK)
	d.reloads(textX, 7, api.OK, 0)
	d.turns(6)
	d.aborts(2, api.OK)
	d.reloads(textX, 0, api.ErrPlan, 0)
	d.turns(1)
	d.reloads(textX, 0, api.ErrPlan, 0)
	d.turns(0)
	d.inForce(tableY)
	d.reloads(textX, 7, api.OK, 0)
}

func TestP11HomeIsTheTableInForceThen(t *testing.T) {
	d := begin(t, textX)
	d.reloads(textY, 6, api.OK, 0)
	d.turns(5, 4, 3, 2, 1, 0)
	d.inForce(tableY)
	// Home is Y's table now, and not that of the text that the pooler was begun with.
	d.reloads("budget 7|pool app size 3 wait 1 far 6", 3, api.OK, 0)
	d.turns(2, 1)
	d.aborts(3, api.OK)
	d.plans("back: Cut 2, Add log, Grow log 1")
	d.turns(2, 1, 0)
	d.inForce(tableY)
	// A Reload that is refused, or has no step, is no way from home.
	d.reloads("budget 5", 3, api.OK, 0)
	d.turns(2)
	d.reloads(textX, 0, api.ErrPlan, 0)
	d.aborts(4, api.OK)
	d.plans("back: Add app, Move app 6, Hold app 1, Grow app 1")
	d.turns(3, 2, 1, 0)
	d.inForce(tableY)
}
