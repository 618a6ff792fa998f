package pooler_test

import (
	"fmt"
	"slices"
	"strings"
	"testing"

	"pooler/api"
)

func TestP12Example(t *testing.T) {
	d := exampleEight(t)
	d.reloads(textY, 6, api.OK, 0)
	d.turns(6)
	d.shows("1 app 5 4, 2 app 5 2, 3 web 0 3; 6 web")
	d.dones(2, api.OK)
	d.shows("1 app 5 4, 3 web 0 3; 6 web")
	d.turns(5, 5)
	d.shows("1 app 5 4, 3 web 0 3; ")
	d.asks(6, "web", 0, api.ErrPool)
	d.reloads(textX, 0, api.ErrPlan, 0)
	d.dones(3, api.OK)
	d.shows("1 app 5 4; ")
	d.turns(4, 3, 2, 2)
	d.shows("1 app 5 4; ")
	d.dones(4, api.OK)
	d.shows("; ")
	d.turns(1, 0)
	d.noTurn()
	d.inForce(tableY)
}

func TestP12EachStepOnItsOwnTurn(t *testing.T) {
	d := begin(t, "budget 9|pool b size 2 wait 2 far 2|pool d size 3 wait 3 far 3|pool e size 4")
	d.reloads("budget 8|pool a size 1 wait 1 far 1|pool b size 1 wait 2 far 2|pool d size 5 wait 4 far 4", 10, api.OK, 0)
	d.plans("Shrink b 1, Drop e, Cut 8, Add a, Move a 1, Move d 4, Hold a 1, Hold d 4, Grow a 1, Grow d 5")
	b, dd, e := pool("b", 2, 2, 2), pool("d", 3, 3, 3), pool("e", 4, 0, 0)
	d.inForce(tableOf(9, b, dd, e))
	d.turns(9)
	b.Size = 1
	d.inForce(tableOf(9, b, dd, e))
	d.turns(8)
	d.inForce(tableOf(9, b, dd))
	d.turns(7)
	d.inForce(tableOf(8, b, dd))
	d.turns(6)
	a := pool("a", 0, 0, 0)
	d.inForce(tableOf(8, a, b, dd))
	d.turns(5)
	a.Far = 1
	d.inForce(tableOf(8, a, b, dd))
	d.turns(4)
	dd.Far = 4
	d.inForce(tableOf(8, a, b, dd))
	d.turns(3)
	a.Wait = 1
	d.inForce(tableOf(8, a, b, dd))
	d.turns(2)
	dd.Wait = 4
	d.inForce(tableOf(8, a, b, dd))
	d.turns(1)
	a.Size = 1
	d.inForce(tableOf(8, a, b, dd))
	d.turns(0)
	dd.Size = 5
	d.inForce(tableOf(8, a, b, dd))
	d.reloads("budget 11|pool a size 1 wait 1 far 1|pool b size 1 wait 2 far 2|pool d size 5 wait 4 far 4", 1, api.OK, 0)
	d.turns(0)
	d.inForce(tableOf(11, a, b, dd))
}

// filled is a pooler in which clients 1, 2, … hold a server each, of these pools in turn, and some of them are idle again.
func filled(t *testing.T, text, pools string, idle ...int) *desk {
	t.Helper()
	d := begin(t, text)
	for i, name := range strings.Fields(pools) {
		d.asks(i+1, name, i+1, api.OK)
	}
	for _, client := range idle {
		d.dones(client, api.OK)
	}
	return d
}

func TestP12Shrink(t *testing.T) {
	text := "budget 9|pool a size 5 wait 9|pool b size 3 wait 9"
	// The idle ones with the greatest Ids go, of this pool alone, and no more than need be.
	d := filled(t, text, "a a a b a a b", 1, 3, 6, 7)
	d.reloads("budget 9|pool a size 3 wait 9|pool b size 3 wait 9", 1, api.OK, 0)
	d.shows("1 a 0 -, 2 a 0 2, 3 a 0 -, 4 b 0 4, 5 a 0 5, 6 a 0 -, 7 b 0 -; ")
	d.turns(0)
	d.shows("1 a 0 -, 2 a 0 2, 4 b 0 4, 5 a 0 5, 7 b 0 -; ")
	// To what it has: nothing is closed.
	d = filled(t, text, "a a a", 2)
	d.reloads("budget 9|pool a size 3 wait 9|pool b size 3 wait 9", 1, api.OK, 0)
	d.turns(0)
	d.shows("1 a 0 1, 2 a 0 -, 3 a 0 3; ")
	// Leased ones stay till Done or Crash, and till then the step is not done.
	d = filled(t, text, "a a a a b", 3)
	d.reloads("budget 9|pool a size 1 wait 9|pool b size 3 wait 9", 1, api.OK, 0)
	d.turns(1)
	d.shows("1 a 0 1, 2 a 0 2, 4 a 0 4, 5 b 0 5; ")
	d.asks(9, "a", 0, api.OK)
	d.turns(1, 1)
	d.dones(2, api.OK)
	d.shows("1 a 0 1, 4 a 0 4, 5 b 0 5; 9 a")
	d.turns(1)
	d.crashes(1, api.OK)
	d.shows("4 a 0 4, 5 b 0 5; 9 a")
	d.plans("begun: Shrink a 1")
	// At its Size it is no longer surplus: who waits gets it.
	d.dones(4, api.OK)
	d.shows("4 a 0 9, 5 b 0 5; ")
	d.turns(0)
	d.plans("")
}

func TestP12ShrinkToNothing(t *testing.T) {
	d := filled(t, "budget 9|pool a size 2 wait 2", "a a", 2)
	d.reloads("budget 9|pool a size 0 wait 2", 1, api.OK, 0)
	d.turns(1)
	d.shows("1 a 0 1; ")
	d.asks(8, "a", 0, api.OK)
	d.dones(1, api.OK)
	d.shows("; 8 a")
	d.turns(0)
	// The pool is in force: one may wait for it, in vain.
	d.shows("; 8 a")
	d.reloads("budget 9|pool a size 1 wait 2", 1, api.OK, 0)
	d.turns(0)
	d.shows("3 a 0 8; ")
}

func TestP12Drop(t *testing.T) {
	text := "budget 9|pool a size 3 wait 9|pool b size 1 wait 9"
	d := filled(t, text, "a b a a", 3)
	d.asks(5, "b", 0, api.OK)
	d.reloads("budget 9|pool b size 1 wait 9", 1, api.OK, 0)
	d.shows("1 a 0 1, 2 b 0 2, 3 a 0 -, 4 a 0 4; 5 b")
	d.asks(6, "a", 3, api.OK)
	d.asks(7, "a", 0, api.OK)
	d.asks(8, "b", 0, api.OK)
	d.asks(9, "a", 0, api.OK)
	d.turns(1)
	d.inForce(tableOf(9, pool("b", 1, 9, 0)))
	d.shows("1 a 0 1, 2 b 0 2, 3 a 0 6, 4 a 0 4; 5 b, 8 b")
	d.asks(7, "a", 0, api.ErrPool)
	d.leaves(7, api.ErrIdle)
	d.asks(7, "b", 0, api.OK)
	d.asks(1, "a", 0, api.ErrBusy)
	d.turns(1)
	d.dones(6, api.OK)
	d.shows("1 a 0 1, 2 b 0 2, 4 a 0 4; 5 b, 8 b, 7 b")
	d.crashes(1, api.OK)
	d.turns(1)
	d.dones(4, api.OK)
	d.turns(0)
	d.shows("2 b 0 2; 5 b, 8 b, 7 b")
	// Idle ones alone: done at once.
	d = filled(t, text, "a b a a", 1, 2, 3, 4)
	d.reloads("budget 9|pool b size 1 wait 9", 1, api.OK, 0)
	d.turns(0)
	d.shows("2 b 0 -; ")
	// A pool without a server.
	d.reloads("budget 9", 1, api.OK, 0)
	d.crashes(2, api.OK)
	d.turns(0)
	d.shows("; ")
	d.inForce(tableOf(9))
}

func TestP12Cut(t *testing.T) {
	text := "budget 6|pool a size 6 wait 9|pool b size 6 wait 9"
	// The idle ones with the greatest Ids go, of whatever pool, and no more than need be.
	d := filled(t, text, "a b a b a b", 1, 2, 4, 5)
	d.reloads("budget 4|pool a size 6 wait 9|pool b size 6 wait 9", 1, api.OK, 0)
	d.turns(0)
	d.shows("1 a 0 -, 2 b 0 -, 3 a 0 3, 6 b 0 6; ")
	// Leased ones stay; meanwhile nobody is served, and what is given back is closed, of whatever pool.
	d = filled(t, text, "a b a b a", 3)
	d.reloads("budget 2|pool a size 6 wait 9|pool b size 6 wait 9", 1, api.OK, 0)
	d.turns(1)
	d.shows("1 a 0 1, 2 b 0 2, 4 b 0 4, 5 a 0 5; ")
	d.asks(9, "a", 0, api.OK)
	d.asks(8, "b", 0, api.OK)
	d.turns(1)
	d.dones(4, api.OK)
	d.shows("1 a 0 1, 2 b 0 2, 5 a 0 5; 9 a, 8 b")
	d.turns(1)
	d.crashes(1, api.OK)
	d.shows("2 b 0 2, 5 a 0 5; 9 a, 8 b")
	d.turns(0)
	// At the Budget: an idle one of b is closed for 9, who came first.
	d.dones(2, api.OK)
	d.shows("5 a 0 5, 6 a 0 9; 8 b")
	d.crashes(5, api.OK)
	d.shows("6 a 0 9, 7 b 0 8; ")
	// To what there is: nothing is closed.
	d = filled(t, text, "a b", 1, 2)
	d.reloads("budget 2|pool a size 6 wait 9|pool b size 6 wait 9", 1, api.OK, 0)
	d.turns(0)
	d.shows("1 a 0 -, 2 b 0 -; ")
}

func TestP12Add(t *testing.T) {
	for _, name := range []string{"a", "c", "ba", "z"} {
		d := filled(t, "budget 9|pool b|pool d", "b d", 1)
		want := tableOf(9, pool("b", 1, 0, 0), pool("d", 1, 0, 0), pool(name, 0, 0, 0))
		slices.SortFunc(want.Pools, func(a, b api.Pool) int { return strings.Compare(a.Name, b.Name) })
		d.reloads("budget 9|pool b|pool d|pool "+name+" size 2 wait 3 far 4", 4, api.OK, 0)
		d.asks(9, name, 0, api.ErrPool)
		d.turns(3)
		d.inForce(want)
		d.plans(strings.ReplaceAll("Move * 4, Hold * 3, Grow * 2", "*", name))
		d.shows("1 b 0 -, 2 d 0 2; ")
		// It is in force, but has neither servers nor room in the line.
		d.asks(9, name, 0, api.ErrFull)
		d.turns(2)
		d.asks(9, name, 0, api.ErrFull)
		d.turns(1)
		d.asks(9, name, 0, api.OK)
		d.turns(0)
		d.shows(fmt.Sprintf("1 b 0 -, 2 d 0 2, 3 %s 4 9; ", name))
	}
}

func TestP12Move(t *testing.T) {
	text := "budget 9|pool a size 4 wait 9 far 1|pool b size 1 wait 9 far 1"
	// The idle ones of this pool are closed, whatever their number; those of another pool are not.
	d := filled(t, text, "a b a a", 1, 2, 4)
	d.reloads("budget 9|pool a size 4 wait 9 far 2|pool b size 1 wait 9 far 1", 1, api.OK, 0)
	d.turns(1)
	d.shows("2 b 1 -, 3 a 1 3; ")
	// New ones have the new Far. What is given back is closed if it has the old one, else it is idle.
	d.asks(5, "a", 5, api.OK)
	d.asks(6, "a", 6, api.OK)
	d.dones(5, api.OK)
	d.shows("2 b 1 -, 3 a 1 3, 5 a 2 -, 6 a 2 6; ")
	d.turns(1)
	d.shows("2 b 1 -, 3 a 1 3, 5 a 2 -, 6 a 2 6; ")
	d.dones(3, api.OK)
	d.plans("begun: Move a 2")
	d.turns(0)
	d.shows("2 b 1 -, 5 a 2 -, 6 a 2 6; ")
	// Who waits gets a new one in the place of an old one.
	d = filled(t, text, "b a a a a")
	d.asks(6, "a", 0, api.OK)
	d.asks(7, "a", 0, api.OK)
	d.reloads("budget 9|pool a size 4 wait 9 far 0|pool b size 1 wait 9 far 1", 1, api.OK, 0)
	d.turns(1)
	d.shows("1 b 1 1, 2 a 1 2, 3 a 1 3, 4 a 1 4, 5 a 1 5; 6 a, 7 a")
	d.dones(3, api.OK)
	d.shows("1 b 1 1, 2 a 1 2, 4 a 1 4, 5 a 1 5, 6 a 0 6; 7 a")
	d.crashes(5, api.OK)
	d.shows("1 b 1 1, 2 a 1 2, 4 a 1 4, 6 a 0 6, 7 a 0 7; ")
	d.turns(1)
	d.dones(6, api.OK)
	d.dones(4, api.OK)
	d.turns(1)
	d.dones(2, api.OK)
	d.shows("1 b 1 1, 6 a 0 -, 7 a 0 7; ")
	d.turns(0)
	// Without a leased one it is done at once.
	d = filled(t, text, "a b a", 1, 2, 3)
	d.reloads("budget 9|pool a size 4 wait 9 far 999|pool b size 1 wait 9 far 1", 1, api.OK, 0)
	d.turns(0)
	d.shows("2 b 1 -; ")
	d.reloads("budget 9|pool a size 4 wait 9 far 999|pool b size 1 wait 9 far 0", 1, api.OK, 0)
	d.turns(0)
	d.shows("; ")
}

func TestP12Hold(t *testing.T) {
	text := "budget 2|pool a size 1 wait 5|pool b size 1 wait 5"
	d := filled(t, text, "a b")
	for i, name := range strings.Fields("a b a a b a") {
		d.asks(3+i, name, 0, api.OK)
	}
	d.shows("1 a 0 1, 2 b 0 2; 3 a, 4 b, 5 a, 6 a, 7 b, 8 a")
	// Those of this pool who came last leave the line, and no more than need be.
	d.reloads("budget 2|pool a size 1 wait 2|pool b size 1 wait 5", 1, api.OK, 0)
	d.shows("1 a 0 1, 2 b 0 2; 3 a, 4 b, 5 a, 6 a, 7 b, 8 a")
	d.turns(0)
	d.shows("1 a 0 1, 2 b 0 2; 3 a, 4 b, 5 a, 7 b")
	d.leaves(8, api.ErrIdle)
	d.asks(6, "a", 0, api.ErrFull)
	d.asks(6, "b", 0, api.OK)
	// To as many as wait, and to more.
	d.reloads("budget 2|pool a size 1 wait 4|pool b size 1 wait 3", 2, api.OK, 0)
	d.turns(1, 0)
	d.shows("1 a 0 1, 2 b 0 2; 3 a, 4 b, 5 a, 7 b, 6 b")
	d.asks(8, "a", 0, api.OK)
	d.asks(9, "b", 0, api.ErrFull)
	// To nobody.
	d.reloads("budget 2|pool a size 1|pool b size 1 wait 3", 1, api.OK, 0)
	d.turns(0)
	d.shows("1 a 0 1, 2 b 0 2; 4 b, 7 b, 6 b")
	d.dones(1, api.OK)
	d.shows("1 a 0 -, 2 b 0 2; 4 b, 7 b, 6 b")
}

func TestP12RaiseAndGrow(t *testing.T) {
	// Raise serves those for whom the Budget had no room, in their order.
	d := filled(t, "budget 2|pool a size 3 wait 9|pool b size 2 wait 9", "a b")
	for i, name := range strings.Fields("b b a a a") {
		d.asks(3+i, name, 0, api.OK)
	}
	d.reloads("budget 4|pool a size 3 wait 9|pool b size 2 wait 9", 1, api.OK, 0)
	d.turns(0)
	d.shows("1 a 0 1, 2 b 0 2, 3 b 0 3, 4 a 0 5; 4 b, 6 a, 7 a")
	// Grow serves those for whom the pool had no room.
	d.reloads("budget 9|pool a size 3 wait 9|pool b size 3 wait 9", 2, api.OK, 0)
	d.turns(1)
	d.shows("1 a 0 1, 2 b 0 2, 3 b 0 3, 4 a 0 5, 5 a 0 6; 4 b, 7 a")
	d.turns(0)
	d.shows("1 a 0 1, 2 b 0 2, 3 b 0 3, 4 a 0 5, 5 a 0 6, 6 b 0 4; 7 a")
	// By Grow an idle one of another pool is closed, if the Budget asks for it.
	d = filled(t, "budget 2|pool a|pool b wait 9", "a b", 1)
	d.asks(3, "b", 0, api.OK)
	d.asks(4, "b", 0, api.OK)
	d.reloads("budget 2|pool a|pool b size 5 wait 9", 1, api.OK, 0)
	d.turns(0)
	d.shows("2 b 0 2, 3 b 0 3; 4 b")
}

func TestP12WithoutAPlan(t *testing.T) {
	d := begin(t, textX)
	d.noTurn()
	d.reloads(textX, 0, api.OK, 0)
	d.noTurn()
	d.reloads("", 0, api.ErrForm, 1)
	d.noTurn()
	d.reloads(textY, 6, api.OK, 0)
	d.aborts(0, api.OK)
	d.noTurn()
	d.reloads("budget 4", 3, api.OK, 0)
	d.turns(2, 1, 0)
	d.noTurn()
	d.reloads("budget 5|pool a", 3, api.OK, 0)
	d.turns(2)
	d.aborts(1, api.OK)
	d.turns(0)
	d.noTurn()
	d.inForce(tableOf(4))
}
