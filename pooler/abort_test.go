package pooler_test

import (
	"slices"
	"testing"

	"pooler/api"
)

// dropping is example 8 where Drop has begun.
func dropping(t *testing.T) *desk {
	t.Helper()
	d := exampleEight(t)
	d.reloads(textY, 6, api.OK, 0)
	d.turns(6)
	d.dones(2, api.OK)
	d.turns(5, 5)
	return d
}

func TestP13Example(t *testing.T) {
	d := dropping(t)
	d.aborts(4, api.OK)
	d.plans("back: Add web, Hold web 2, Grow app 2, Grow web 1")
	d.inForce(tableOf(3, pool("app", 1, 1, 5)))
	d.aborts(0, api.ErrBack)
	d.turns(3, 2, 1, 0)
	d.inForce(tableX)
	d.shows("1 app 5 4, 3 web 0 3; ")
	// The server is of the pool again: no longer surplus, and one of its Size.
	d.asks(6, "web", 0, api.OK)
	d.dones(3, api.OK)
	d.shows("1 app 5 4, 3 web 0 6; ")
}

func TestP13AheadOfTheFirstTurn(t *testing.T) {
	d := exampleEight(t)
	d.reloads(textY, 6, api.OK, 0)
	d.asks(7, "web", 0, api.OK)
	d.aborts(0, api.OK)
	d.plans("")
	d.inForce(tableX)
	d.shows("1 app 5 4, 2 app 5 2, 3 web 0 3; 6 web, 7 web")
	d.noTurn()
	d.aborts(0, api.ErrIdle)
	d.reloads(textY, 6, api.OK, 0)
	d.plans(stepsXY)
}

func TestP13AtEachPoint(t *testing.T) {
	texts := []string{textX, textY, "budget 1", "budget 6|pool app size 4|pool log wait 4 far 1|pool web size 3 wait 1 far 7"}
	for _, from := range texts {
		for _, to := range texts {
			for turns := 0; turns < 20; turns++ {
				abortAfter(t, from, to, turns)
			}
		}
	}
}

// abortAfter has servers leased of each pool when Reload comes, turns some times, aborts, and gives servers back while turning on.
func abortAfter(t *testing.T, from, to string, turns int) {
	t.Helper()
	d := begin(t, from)
	home := d.home
	for client := 1; client <= 6; client++ {
		d.ask(client, []string{"app", "web", "log"}[client%3])
	}
	d.reload(to)
	for n := 0; n < turns; n++ {
		if n%2 == 1 {
			d.done(n / 2)
		}
		d.turn()
	}
	if len(d.m.steps) == 0 {
		return
	}
	want := modelDiff(d.p.Show().Table, home)
	d.aborts(len(want), api.OK)
	if s := d.p.Show(); !slices.Equal(s.Plan, want) || s.Begun || s.Back != (len(want) > 0) {
		t.Fatalf("%s: %+v, want %s", d.calls, s, told(want))
	}
	for client := 1; len(d.m.steps) > 0; client++ {
		d.aborts(0, api.ErrBack)
		d.turn()
		d.done(client % 7)
	}
	d.inForce(home)
	d.aborts(0, api.ErrIdle)
}

func TestP13OfAPlanThatAbortMade(t *testing.T) {
	d := dropping(t)
	d.aborts(4, api.OK)
	for left := 3; left >= 0; left-- {
		d.aborts(0, api.ErrBack)
		d.turns(left)
	}
	d.aborts(0, api.ErrIdle)
	// Where a step of the way back has begun.
	d = begin(t, "budget 9|pool a")
	d.reloads("budget 9|pool a|pool b size 1", 2, api.OK, 0)
	d.turns(1)
	d.aborts(1, api.OK)
	d.plans("back: Drop b")
	d.aborts(0, api.ErrBack)
	d = begin(t, "budget 1|pool a size 9")
	d.reloads("budget 2|pool a size 9|pool b", 3, api.OK, 0)
	d.turns(2, 1)
	d.asks(1, "a", 1, api.OK)
	d.asks(2, "a", 2, api.OK)
	d.aborts(2, api.OK)
	d.plans("back: Drop b, Cut 1")
	d.turns(1, 1)
	d.plans("back: begun: Cut 1")
	d.aborts(0, api.ErrBack)
	d.dones(1, api.OK)
	d.turns(0)
	d.aborts(0, api.ErrIdle)
	// Behind the way back a plan is one of Reload again.
	d.reloads("budget 2|pool a size 9|pool b", 3, api.OK, 0)
	d.turns(2)
	d.plans("Raise 2, Grow b 1")
	d.aborts(1, api.OK)
	d.turns(0)
	d.inForce(tableOf(1, pool("a", 9, 0, 0)))
}

func TestP13WithoutAPlan(t *testing.T) {
	d := begin(t, textX)
	d.aborts(0, api.ErrIdle)
	d.reloads(textX, 0, api.OK, 0)
	d.aborts(0, api.ErrIdle)
	d.reloads("x", 0, api.ErrForm, 1)
	d.aborts(0, api.ErrIdle)
	d.reloads(textY, 6, api.OK, 0)
	d.turns(5, 4, 3, 2, 1, 0)
	// Where all of it is taken, there is nothing to go back by.
	d.aborts(0, api.ErrIdle)
	d.inForce(tableY)
}

func TestP13ADropHalfWay(t *testing.T) {
	text := "budget 9|pool a size 2 wait 2 far 5"
	back := "back: Add a, Move a 5, Hold a 2, Grow a 2"
	// Given back at once, at Add or at Move, the server is surplus: the pool has no Size yet.
	for turns := 0; turns <= 3; turns++ {
		d := filled(t, text, "a a")
		d.asks(3, "a", 0, api.OK)
		d.reloads("budget 9", 1, api.OK, 0)
		d.turns(1)
		d.aborts(4, api.OK)
		d.plans(back)
		d.turns([]int{3, 2, 1}[:turns]...)
		d.dones(1, api.OK)
		d.shows("2 a 5 2; ")
		for left := 3 - turns; left >= 0; left-- {
			d.turns(left)
		}
		d.shows("2 a 5 2; ")
		d.asks(4, "a", 3, api.OK)
		d.asks(5, "a", 0, api.OK)
	}
	// Kept till Grow, it is one of the pool as ever.
	d := filled(t, text, "a a")
	d.reloads("budget 9", 1, api.OK, 0)
	d.turns(1)
	d.aborts(4, api.OK)
	d.turns(3, 2, 1, 0)
	d.asks(4, "a", 0, api.OK)
	d.dones(1, api.OK)
	d.shows("1 a 5 4, 2 a 5 2; ")
	d.dones(4, api.OK)
	d.shows("1 a 5 -, 2 a 5 2; ")
}

func TestP13AMoveHalfWay(t *testing.T) {
	d := filled(t, "budget 9|pool a size 3 wait 9 far 5", "a a", 2)
	d.reloads("budget 9|pool a size 3 wait 9 far 6", 1, api.OK, 0)
	d.turns(1)
	d.asks(3, "a", 3, api.OK)
	d.asks(4, "a", 4, api.OK)
	d.dones(4, api.OK)
	d.shows("1 a 5 1, 3 a 6 3, 4 a 6 -; ")
	d.aborts(1, api.OK)
	d.plans("back: Move a 5")
	// Abort alone changes nothing else: till Turn the new Far is in force.
	d.shows("1 a 5 1, 3 a 6 3, 4 a 6 -; ")
	d.asks(5, "a", 4, api.OK)
	d.dones(5, api.OK)
	d.turns(1)
	d.shows("1 a 5 1, 3 a 6 3; ")
	d.dones(1, api.OK)
	d.shows("1 a 5 -, 3 a 6 3; ")
	d.turns(1)
	d.dones(3, api.OK)
	d.turns(0)
	d.shows("1 a 5 -; ")
}

func TestP13AShrinkAndACutHalfWay(t *testing.T) {
	d := filled(t, "budget 3|pool a size 3 wait 9", "a a a")
	d.asks(4, "a", 0, api.OK)
	d.reloads("budget 1|pool a size 2 wait 9", 2, api.OK, 0)
	d.turns(2)
	d.aborts(1, api.OK)
	d.plans("back: Grow a 3")
	// The Size is the lesser one still.
	d.dones(1, api.OK)
	d.shows("2 a 0 2, 3 a 0 3; 4 a")
	d.turns(0)
	d.shows("2 a 0 2, 3 a 0 3, 4 a 0 4; ")
	d.reloads("budget 1|pool a size 3 wait 9", 1, api.OK, 0)
	d.turns(1)
	d.aborts(1, api.OK)
	d.plans("back: Raise 3")
	d.dones(2, api.OK)
	d.shows("3 a 0 3, 4 a 0 4; ")
	d.turns(0)
	d.asks(5, "a", 5, api.OK)
}
