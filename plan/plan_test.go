package plan

import (
	"slices"
	"testing"

	"pooler/api"
)

func same(a, b api.Table) bool {
	return a.Budget == b.Budget && slices.Equal(a.Pools, b.Pools)
}

func start() api.Table {
	return api.Table{Budget: 5, Pools: []api.Pool{{Name: "b", Size: 2, Wait: 3, Far: 4}, {Name: "d", Size: 6, Wait: 7, Far: 8}}}
}

func TestP12TakeOfEachKind(t *testing.T) {
	b, d := start().Pools[0], start().Pools[1]
	for _, c := range []struct {
		step   api.Step
		budget int
		pools  []api.Pool
	}{
		{api.Step{Kind: api.Shrink, Name: "d", N: 1}, 5, []api.Pool{b, {Name: "d", Size: 1, Wait: 7, Far: 8}}},
		{api.Step{Kind: api.Drop, Name: "b"}, 5, []api.Pool{d}},
		{api.Step{Kind: api.Drop, Name: "d"}, 5, []api.Pool{b}},
		{api.Step{Kind: api.Cut, N: 1}, 1, []api.Pool{b, d}},
		{api.Step{Kind: api.Add, Name: "a"}, 5, []api.Pool{{Name: "a"}, b, d}},
		{api.Step{Kind: api.Add, Name: "c"}, 5, []api.Pool{b, {Name: "c"}, d}},
		{api.Step{Kind: api.Add, Name: "e"}, 5, []api.Pool{b, d, {Name: "e"}}},
		{api.Step{Kind: api.Move, Name: "b", N: 9}, 5, []api.Pool{{Name: "b", Size: 2, Wait: 3, Far: 9}, d}},
		{api.Step{Kind: api.Hold, Name: "b", N: 0}, 5, []api.Pool{{Name: "b", Size: 2, Wait: 0, Far: 4}, d}},
		{api.Step{Kind: api.Raise, N: 99}, 99, []api.Pool{b, d}},
		{api.Step{Kind: api.Grow, Name: "b", N: 20}, 5, []api.Pool{{Name: "b", Size: 20, Wait: 3, Far: 4}, d}},
		{api.Step{}, 5, []api.Pool{b, d}},
	} {
		from := start()
		got := Take(from, c.step)
		if want := (api.Table{Budget: c.budget, Pools: c.pools}); !same(got, want) {
			t.Errorf("Take(%+v) = %+v, want %+v", c.step, got, want)
		}
		if !same(from, start()) {
			t.Errorf("Take(%+v) wrote into its table: %+v", c.step, from)
		}
		for i := range got.Pools {
			got.Pools[i] = api.Pool{Name: "spoilt"}
		}
		if !same(from, start()) {
			t.Errorf("Take(%+v) answered the list that it was given", c.step)
		}
	}
}

func TestWayKeepsNoList(t *testing.T) {
	now, goal := start(), api.Table{Budget: 4, Pools: []api.Pool{{Name: "b", Size: 2, Wait: 3, Far: 4}}}
	w := Forth(now, goal)
	now.Pools[0].Name = "x"
	goal.Pools[0].Name = "x"
	w.Turned(true)
	back := w.Back(Take(start(), api.Step{Kind: api.Drop, Name: "d"}))
	want := []api.Step{{Kind: api.Add, Name: "d"}, {Kind: api.Move, Name: "d", N: 8}, {Kind: api.Hold, Name: "d", N: 7}, {Kind: api.Grow, Name: "d", N: 6}}
	if got := back.Steps(); !slices.Equal(got, want) || !back.IsBack() || w.IsBack() {
		t.Errorf("back by %v, want %v", got, want)
	}
}

func TestWayIsOverWithItsLastStep(t *testing.T) {
	w := Forth(api.Table{Budget: 1}, api.Table{Budget: 2, Pools: []api.Pool{{Name: "a"}}})
	for _, c := range []struct {
		done  bool
		left  int
		begun bool
	}{{false, 2, true}, {false, 2, true}, {true, 1, false}, {false, 1, true}, {true, 0, false}} {
		w.Turned(c.done)
		if w.Left() != c.left || len(w.Steps()) != c.left || w.HasBegun() != c.begun {
			t.Errorf("Turned(%v): %+v, want %d steps, begun %v", c.done, w, c.left, c.begun)
		}
	}
	if w.First() != (api.Step{}) || w.home.Budget != 0 || w.IsBack() {
		t.Errorf("a way without a step: %+v", w)
	}
}
