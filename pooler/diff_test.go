package pooler_test

import (
	"fmt"
	"math/rand"
	"slices"
	"strings"
	"testing"

	"pooler/api"
	"pooler/pooler"
)

var (
	tableX = tableOf(3, pool("app", 2, 1, 5), pool("web", 1, 2, 0))
	tableY = tableOf(2, pool("app", 1, 1, 6), pool("log", 1, 0, 0))
)

var kindNames = []string{"", "Shrink", "Drop", "Cut", "Add", "Move", "Hold", "Raise", "Grow"}

// told writes steps as the document does: "Shrink app 1, Drop web, Cut 2". A number of Drop or Add, and a name of Cut or Raise, is told only if it is there, where none should be.
func told(steps []api.Step) string {
	words := []string{}
	for _, s := range steps {
		word := fmt.Sprintf("kind %d", s.Kind)
		if s.Kind >= api.Shrink && s.Kind <= api.Grow {
			word = kindNames[s.Kind]
		}
		if s.Name != "" || s.Kind != api.Cut && s.Kind != api.Raise {
			word += " " + s.Name
		}
		if s.N != 0 || s.Kind != api.Drop && s.Kind != api.Add {
			word += fmt.Sprintf(" %d", s.N)
		}
		words = append(words, word)
	}
	return strings.Join(words, ", ")
}

// differs holds the steps from a to b against what is wanted.
func differs(t *testing.T, a, b api.Table, want string) {
	t.Helper()
	steps, e := pooler.Diff(a, b)
	if got := told(steps); got != want || e != api.OK {
		t.Errorf("Diff(%+v, %+v) = %s, %d, want %s", a, b, got, e, want)
	}
}

// refuses holds that a pair with something that is no table has no steps.
func refuses(t *testing.T, a, b api.Table) {
	t.Helper()
	if steps, e := pooler.Diff(a, b); len(steps) != 0 || e != api.ErrTable {
		t.Errorf("Diff(%.200v, %.200v) = %v, %d, want ErrTable", a, b, steps, e)
	}
}

func TestP1DiffOfAnything(t *testing.T) {
	long := api.Table{Budget: 1, Pools: make([]api.Pool, 1<<20)}
	wide := tableOf(1, pool(strings.Repeat("a", 1<<20), 1, 1, 1))
	for _, bad := range []api.Table{long, wide} {
		refuses(t, bad, tableX)
		refuses(t, tableX, bad)
		refuses(t, bad, bad)
	}
	for _, n := range oddNumbers {
		for _, bad := range []api.Table{tableOf(n), tableOf(1, pool("a", n, n, n), pool("b", n, n, n))} {
			if _, e := pooler.Print(bad); e == api.OK {
				continue
			}
			refuses(t, bad, tableX)
			refuses(t, tableX, bad)
			refuses(t, bad, bad)
		}
	}
}

func TestP2DiffLeavesItsTables(t *testing.T) {
	room := []api.Pool{pool("a", 2, 1, 5), pool("c", 1, 2, 0), pool("d", 7, 7, 7), pool("e", 8, 8, 8), pool("f", 0, 0, 0), pool("g", 20, 20, 999), pool("h", 3, 3, 3)}
	before := slices.Clone(room)
	// The lists lie in one room, so that each has the other's pools, or none, behind its end.
	for from := 0; from <= len(room); from++ {
		for to := from; to <= len(room); to++ {
			for other := 0; other <= len(room); other++ {
				a := api.Table{Budget: 3, Pools: room[from:to]}
				b := api.Table{Budget: 9, Pools: room[:other]}
				for _, pair := range [][2]api.Table{{a, b}, {b, a}} {
					steps, _ := pooler.Diff(pair[0], pair[1])
					spoilSteps(steps)
					if !slices.Equal(room, before) {
						t.Fatalf("Diff of %d to %d and of the first %d: %+v", from, to, other, room)
					}
				}
			}
		}
	}
}

// spoilSteps writes into a list of steps and into its spare room.
func spoilSteps(steps []api.Step) {
	for i := range steps[:cap(steps)] {
		steps[:cap(steps)][i] = api.Step{Kind: 77, Name: "spoilt", N: 77}
	}
}

func TestP2DiffAnswersFreshLists(t *testing.T) {
	tables := []api.Table{tableX, tableY, tableOf(3), tableOf(2), tableOf(3, letterPools("abcdef")...), tableOf(4, pool("b", 0, 0, 0))}
	for _, a := range tables {
		for _, b := range tables {
			first, _ := pooler.Diff(a, b)
			second, _ := pooler.Diff(a, b)
			other, _ := pooler.Diff(b, a)
			want, wantOther := slices.Clone(second), slices.Clone(other)
			spoilSteps(first)
			third, _ := pooler.Diff(a, b)
			if !slices.Equal(second, want) || !slices.Equal(third, want) || !slices.Equal(other, wantOther) {
				t.Fatalf("writing into one answer of Diff(%+v, %+v) changed another: %v, %v, %v", a, b, second, third, other)
			}
			// An answer's spare room is the caller's too.
			longer := append(second, api.Step{Kind: 77, Name: "more"})
			fourth, _ := pooler.Diff(a, b)
			if !slices.Equal(fourth, want) || !slices.Equal(third, want) || !slices.Equal(other, wantOther) || longer[len(want)].Kind != 77 {
				t.Fatalf("appending to one answer of Diff(%+v, %+v) changed another: %v, %v, %v", a, b, third, fourth, other)
			}
		}
	}
}

func TestP2DiffKeepsNoList(t *testing.T) {
	a := tableOf(3, pool("app", 2, 1, 5), pool("web", 1, 2, 0))
	b := tableOf(2, pool("app", 1, 1, 6), pool("log", 1, 0, 0))
	steps, _ := pooler.Diff(a, b)
	want := slices.Clone(steps)
	spoil(api.State{Table: a})
	spoil(api.State{Table: b})
	if !slices.Equal(steps, want) {
		t.Errorf("writing into the tables changed the steps: %v, %v", steps, want)
	}
	differs(t, tableX, tableY, "Shrink app 1, Drop web, Cut 2, Add log, Move app 6, Grow log 1")
}

func TestP2DiffAndTheOtherCalls(t *testing.T) {
	r := rand.New(rand.NewSource(8))
	for i := 0; i < 300; i++ {
		d := begin(t, randomPools(r))
		text := bars(randomPools(r))
		compiled, _, _ := pooler.Compile(text)
		want, _, _ := oracleCompile(text)
		for n := 0; n < 30; n++ {
			randomCall(d, r)
			shown := d.p.Show()
			clone := cloneState(shown)
			steps, e := pooler.Diff(shown.Table, compiled)
			if e != api.OK || !slices.Equal(steps, modelDiff(d.m.table, want)) {
				t.Fatalf("%s: Diff(%+v, %+v) = %v, %d", d.calls, shown.Table, compiled, steps, e)
			}
			spoilSteps(steps)
			if !sameState(shown, clone) || !same(compiled, want) {
				t.Fatalf("%s: writing into steps changed %+v or %+v", d.calls, shown, compiled)
			}
			// The pooler goes on by the model: Diff of its table is no plan of it.
			d.look()
		}
	}
}

func TestP2DiffHangsOnItsArgumentsAlone(t *testing.T) {
	for range 3 {
		differs(t, tableX, tableY, "Shrink app 1, Drop web, Cut 2, Add log, Move app 6, Grow log 1")
		refuses(t, tableX, api.Table{})
		differs(t, tableX, tableX, "")
		differs(t, tableY, tableX, "Drop log, Add web, Move app 5, Hold web 2, Raise 3, Grow app 2, Grow web 1")
		refuses(t, api.Table{}, tableY)
	}
}

func TestP10Examples(t *testing.T) {
	x, _, _ := pooler.Compile(textX)
	y, _, _ := pooler.Compile(textY)
	differs(t, x, y, "Shrink app 1, Drop web, Cut 2, Add log, Move app 6, Grow log 1")
	differs(t, x, x, "")
	differs(t, y, y, "")
	// What example 9 goes back by: where X's Shrink of app and Drop of web have begun, the way to X again.
	differs(t, tableOf(3, pool("app", 1, 1, 5)), x, "Add web, Hold web 2, Grow app 2, Grow web 1")
}

func TestP10EachKindAlone(t *testing.T) {
	for _, c := range []struct {
		a, b api.Table
		want string
	}{
		{tableOf(5, pool("p", 4, 3, 2)), tableOf(5, pool("p", 3, 3, 2)), "Shrink p 3"},
		{tableOf(5, pool("p", 20, 3, 2)), tableOf(5, pool("p", 0, 3, 2)), "Shrink p 0"},
		{tableOf(5, pool("p", 4, 3, 2)), tableOf(5), "Drop p"},
		{tableOf(5, pool("p", 0, 0, 0)), tableOf(5), "Drop p"},
		{tableOf(5, pool("p", 4, 3, 2)), tableOf(4, pool("p", 4, 3, 2)), "Cut 4"},
		{tableOf(99), tableOf(1), "Cut 1"},
		{tableOf(5), tableOf(5, pool("p", 0, 0, 0)), "Add p"},
		{tableOf(5, pool("p", 4, 3, 2)), tableOf(5, pool("p", 4, 3, 3)), "Move p 3"},
		{tableOf(5, pool("p", 4, 3, 2)), tableOf(5, pool("p", 4, 3, 1)), "Move p 1"},
		{tableOf(5, pool("p", 4, 3, 999)), tableOf(5, pool("p", 4, 3, 0)), "Move p 0"},
		{tableOf(5, pool("p", 4, 3, 0)), tableOf(5, pool("p", 4, 3, 999)), "Move p 999"},
		{tableOf(5, pool("p", 4, 3, 2)), tableOf(5, pool("p", 4, 4, 2)), "Hold p 4"},
		{tableOf(5, pool("p", 4, 3, 2)), tableOf(5, pool("p", 4, 2, 2)), "Hold p 2"},
		{tableOf(5, pool("p", 4, 20, 2)), tableOf(5, pool("p", 4, 0, 2)), "Hold p 0"},
		{tableOf(5, pool("p", 4, 0, 2)), tableOf(5, pool("p", 4, 20, 2)), "Hold p 20"},
		{tableOf(5, pool("p", 4, 3, 2)), tableOf(6, pool("p", 4, 3, 2)), "Raise 6"},
		{tableOf(1), tableOf(99), "Raise 99"},
		{tableOf(5, pool("p", 4, 3, 2)), tableOf(5, pool("p", 5, 3, 2)), "Grow p 5"},
		{tableOf(5, pool("p", 0, 3, 2)), tableOf(5, pool("p", 20, 3, 2)), "Grow p 20"},
	} {
		differs(t, c.a, c.b, c.want)
	}
}

func TestP10AnAddedPool(t *testing.T) {
	for _, c := range []struct {
		p    api.Pool
		want string
	}{
		{pool("p", 0, 0, 0), "Add p"}, {pool("p", 1, 0, 0), "Add p, Grow p 1"}, {pool("p", 0, 1, 0), "Add p, Hold p 1"}, {pool("p", 0, 0, 1), "Add p, Move p 1"},
		{pool("p", 4, 3, 2), "Add p, Move p 2, Hold p 3, Grow p 4"}, {pool("p", 20, 20, 999), "Add p, Move p 999, Hold p 20, Grow p 20"},
	} {
		differs(t, tableOf(5), tableOf(5, c.p), c.want)
		differs(t, tableOf(5, c.p), tableOf(5), "Drop p")
		// Pools of other names, whatever their numbers, are not taken for it.
		for _, name := range []string{"o", "pp", "q"} {
			other := pool(name, c.p.Size, c.p.Wait, c.p.Far)
			differs(t, tableOf(5, other), tableOf(5, c.p), "Drop "+name+", "+c.want)
		}
	}
}

func TestP10KindsThenNames(t *testing.T) {
	a := tableOf(9, pool("a", 5, 1, 1), pool("ab", 5, 2, 2), pool("b", 5, 3, 3), pool("c", 0, 4, 4), pool("d", 0, 5, 5), pool("e", 1, 1, 1))
	b := tableOf(8, pool("a", 4, 9, 8), pool("ab", 3, 9, 8), pool("b", 2, 9, 8), pool("c", 1, 9, 8), pool("d", 2, 9, 8), pool("e", 1, 1, 1))
	moves := "Move a 8, Move ab 8, Move b 8, Move c 8, Move d 8, Hold a 9, Hold ab 9, Hold b 9, Hold c 9, Hold d 9"
	differs(t, a, b, "Shrink a 4, Shrink ab 3, Shrink b 2, Cut 8, "+moves+", Grow c 1, Grow d 2")
	back := "Move a 1, Move ab 2, Move b 3, Move c 4, Move d 5, Hold a 1, Hold ab 2, Hold b 3, Hold c 4, Hold d 5"
	differs(t, b, a, "Shrink c 0, Shrink d 0, "+back+", Raise 9, Grow a 5, Grow ab 5, Grow b 5")
	// Names that go and names that come lie between one another.
	a = tableOf(1, pool("a", 1, 0, 0), pool("az", 1, 0, 0), pool("b", 1, 0, 0), pool("zz", 1, 0, 0))
	b = tableOf(2, pool("aa", 2, 0, 0), pool("b", 0, 1, 1), pool("ba", 0, 2, 0), pool("z", 0, 0, 3))
	differs(t, a, b, "Shrink b 0, Drop a, Drop az, Drop zz, Add aa, Add ba, Add z, Move b 1, Move z 3, Hold b 1, Hold ba 2, Raise 2, Grow aa 2")
	differs(t, b, a, "Drop aa, Drop ba, Drop z, Cut 1, Add a, Add az, Add zz, Move b 0, Hold b 0, Grow a 1, Grow az 1, Grow b 1, Grow zz 1")
	// Six pools go and six others come: no table may have more.
	differs(t, tableOf(1, letterPools("abcdef")...), tableOf(1, letterPools("ghijkl")...),
		"Drop a, Drop b, Drop c, Drop d, Drop e, Drop f, Add g, Add h, Add i, Add j, Add k, Add l, Move g 1, Move h 1, Move i 1, Move j 1, Move k 1, Move l 1, Hold g 1, Hold h 1, Hold i 1, Hold j 1, Hold k 1, Hold l 1, Grow g 1, Grow h 1, Grow i 1, Grow j 1, Grow k 1, Grow l 1")
}

func TestP10TablesWithoutPools(t *testing.T) {
	for _, none := range []api.Table{{Budget: 3}, {Budget: 3, Pools: []api.Pool{}}, {Budget: 3, Pools: tableX.Pools[:0]}} {
		differs(t, none, none, "")
		differs(t, none, tableOf(3), "")
		differs(t, none, tableOf(2), "Cut 2")
		differs(t, none, tableOf(4), "Raise 4")
		differs(t, tableX, none, "Drop app, Drop web")
		differs(t, none, tableX, "Add app, Add web, Move app 5, Hold app 1, Hold web 2, Grow app 2, Grow web 1")
		differs(t, tableY, none, "Drop app, Drop log, Raise 3")
		differs(t, none, tableY, "Cut 2, Add app, Add log, Move app 6, Hold app 1, Grow app 1, Grow log 1")
	}
}

func TestP10ATableAndItself(t *testing.T) {
	r := rand.New(rand.NewSource(9))
	for i := 0; i < 1000; i++ {
		a := randomTable(r)
		differs(t, a, a, "")
		differs(t, a, api.Table{Budget: a.Budget, Pools: slices.Clone(a.Pools)}, "")
	}
}

func TestP10NoTable(t *testing.T) {
	for _, bad := range noTables() {
		refuses(t, bad, tableX)
		refuses(t, tableX, bad)
		refuses(t, bad, bad)
		refuses(t, bad, api.Table{})
	}
	differs(t, tableOf(1, letterPools("abcdef")...), tableOf(1, letterPools("abcdef")...), "")
}

// randomTable has some of a few names, and small numbers mostly, so that many numbers of two tables are the same.
func randomTable(r *rand.Rand) api.Table {
	sizes, fars, budgets := 4, 3, 4
	if r.Intn(4) == 0 {
		sizes, fars, budgets = 21, 1000, 99
	}
	table := tableOf(1 + r.Intn(budgets))
	for _, name := range []string{"a", "aa", "ab", "abcdefgh", "b", "from", "size", "z"} {
		if len(table.Pools) < 6 && r.Intn(2) == 0 {
			table.Pools = append(table.Pools, pool(name, r.Intn(sizes), r.Intn(sizes), r.Intn(fars)))
		}
	}
	return table
}

// taken is the table to which steps lead.
func taken(a api.Table, steps []api.Step) api.Table {
	pools := byName(a.Pools)
	for _, s := range steps {
		p := pools[s.Name]
		switch s.Kind {
		case api.Cut, api.Raise:
			a.Budget = s.N
			continue
		case api.Drop:
			delete(pools, s.Name)
			continue
		case api.Add:
			p = pool(s.Name, 0, 0, 0)
		case api.Shrink, api.Grow:
			p.Size = s.N
		case api.Move:
			p.Far = s.N
		case api.Hold:
			p.Wait = s.N
		}
		pools[s.Name] = p
	}
	a.Pools = nil
	for _, p := range pools {
		a.Pools = append(a.Pools, p)
	}
	slices.SortFunc(a.Pools, func(a, b api.Pool) int { return strings.Compare(a.Name, b.Name) })
	return a
}

func TestP10AgainstTheModel(t *testing.T) {
	r := rand.New(rand.NewSource(10))
	met := map[int]int{}
	for i := 0; i < 20000; i++ {
		a, b := randomTable(r), randomTable(r)
		steps, e := pooler.Diff(a, b)
		if want := modelDiff(a, b); e != api.OK || !slices.Equal(steps, want) {
			t.Fatalf("Diff(%+v, %+v) = %s, %d, want %s", a, b, told(steps), e, told(want))
		}
		if end := taken(a, steps); !same(end, b) {
			t.Fatalf("Diff(%+v, %+v) = %s leads to %+v", a, b, told(steps), end)
		}
		for _, s := range steps {
			met[s.Kind]++
		}
	}
	for kind := api.Shrink; kind <= api.Grow; kind++ {
		if met[kind] < 1000 {
			t.Errorf("%s was met %d times alone: the tables do not try it", kindNames[kind], met[kind])
		}
	}
}
