package pooler_test

import (
	"fmt"
	"math"
	"math/rand"
	"slices"
	"strings"
	"testing"

	"pooler/api"
	"pooler/pooler"
)

var oddNumbers = []int{math.MinInt, math.MinInt + 1, -1 << 32, -100, -99, -1, 0, 100, 101, 255, 256, 1 << 32, 1<<32 + 1, math.MaxInt}

var oddNames = []string{"", " ", "A", "ap", "appa", "app ", " app", "app\n", "APP", "b", "size", "from", "ä", "\xff", "\x00", strings.Repeat("a", 1<<16)}

// desk is a pooler under test, the model that its answers are held against, and what P14 hangs on: the two tables between which the last plan leads, and the one that is in force when there is no plan.
type desk struct {
	t                *testing.T
	p                *pooler.Pooler
	m                *model
	calls            string
	home, goal, rest api.Table
}

func begin(t *testing.T, text string) *desk {
	t.Helper()
	text = bars(text)
	p, e, line := pooler.New(text)
	if p == nil || e != api.OK || line != 0 {
		t.Fatalf("New(%q) = %v, %d, %d", text, p, e, line)
	}
	table, _, _ := oracleCompile(text)
	d := &desk{t: t, p: p, m: newModel(table), calls: fmt.Sprintf("New(%q)", text), home: table, goal: table, rest: table}
	d.look()
	return d
}

func sameState(a, b api.State) bool {
	return same(a.Table, b.Table) && slices.Equal(a.Servers, b.Servers) && slices.Equal(a.Waiters, b.Waiters) && slices.Equal(a.Plan, b.Plan) && a.Begun == b.Begun && a.Back == b.Back
}

// look holds what Show tells against the model.
func (d *desk) look() {
	d.t.Helper()
	if got, want := d.p.Show(), d.m.show(); !sameState(got, want) {
		d.t.Fatalf("%s: Show() = %+v, want %+v", d.calls, got, want)
	}
}

// end notes a call and holds its answer, and what is there behind it, against the model. An error leaves all as it was. The lease over, which names a client or an Id, may end.
func (d *desk) end(call string, before api.State, over api.Server, n, wantN int, e, wantE api.Errno) api.Errno {
	d.t.Helper()
	d.calls += ", " + call
	if n != wantN || e != wantE {
		d.t.Fatalf("%s: %d, %d, want %d, %d", d.calls, n, e, wantN, wantE)
	}
	after := d.p.Show()
	if e != api.OK && !sameState(before, after) {
		d.t.Fatalf("%s: error %d, and %+v became %+v", d.calls, e, before, after)
	}
	d.look()
	d.lawful(before, after, over)
	return e
}

func (d *desk) ask(client int, pool string) (int, api.Errno) {
	d.t.Helper()
	before := d.p.Show()
	id, e := d.p.Ask(client, pool)
	wantId, wantE := d.m.ask(client, pool)
	return id, d.end(fmt.Sprintf("Ask(%d, %.20q)", client, pool), before, api.Server{}, id, wantId, e, wantE)
}

func (d *desk) done(client int) api.Errno {
	d.t.Helper()
	before := d.p.Show()
	return d.end(fmt.Sprintf("Done(%d)", client), before, api.Server{Client: client}, 0, 0, d.p.Done(client), d.m.done(client))
}

func (d *desk) leave(client int) api.Errno {
	d.t.Helper()
	before := d.p.Show()
	return d.end(fmt.Sprintf("Leave(%d)", client), before, api.Server{}, 0, 0, d.p.Leave(client), d.m.leave(client))
}

func (d *desk) crash(id int) api.Errno {
	d.t.Helper()
	before := d.p.Show()
	return d.end(fmt.Sprintf("Crash(%d)", id), before, api.Server{Id: id}, 0, 0, d.p.Crash(id), d.m.crash(id))
}

// asks, dones, leaves and crashes hold an answer against what the document says itself, not against the model alone.
func (d *desk) asks(client int, pool string, id int, e api.Errno) {
	d.t.Helper()
	if gotId, gotE := d.ask(client, pool); gotId != id || gotE != e {
		d.t.Errorf("%s = %d, %d, want %d, %d", d.calls, gotId, gotE, id, e)
	}
}

func (d *desk) dones(client int, e api.Errno) {
	d.t.Helper()
	if got := d.done(client); got != e {
		d.t.Errorf("%s = %d, want %d", d.calls, got, e)
	}
}

func (d *desk) leaves(client int, e api.Errno) {
	d.t.Helper()
	if got := d.leave(client); got != e {
		d.t.Errorf("%s = %d, want %d", d.calls, got, e)
	}
}

func (d *desk) crashes(id int, e api.Errno) {
	d.t.Helper()
	if got := d.crash(id); got != e {
		d.t.Errorf("%s = %d, want %d", d.calls, got, e)
	}
}

// shows holds the servers and the line against a short form: "1 app 5 4, 2 web 0 -; 6 web" are server 1 of app, with Far 5, for client 4; server 2, idle; and client 6, who waits for web.
func (d *desk) shows(want string) {
	d.t.Helper()
	s := d.p.Show()
	servers, line := []string{}, []string{}
	for _, v := range s.Servers {
		servers = append(servers, strings.Replace(fmt.Sprintf("%d %s %d %d.", v.Id, v.Pool, v.Far, v.Client), " 0.", " -.", 1))
	}
	for _, w := range s.Waiters {
		line = append(line, fmt.Sprintf("%d %s", w.Client, w.Pool))
	}
	got := strings.ReplaceAll(strings.Join(servers, ", "), ".", "") + "; " + strings.Join(line, ", ")
	if got != want {
		d.t.Errorf("%s: %s, want %s", d.calls, got, want)
	}
}

// exampleFive is the pooler of the document's example 5, ahead of its first Done.
func exampleFive(t *testing.T) *desk {
	t.Helper()
	d := begin(t, textX)
	d.asks(1, "app", 1, api.OK)
	d.asks(2, "app", 2, api.OK)
	d.asks(3, "web", 3, api.OK)
	d.asks(4, "app", 0, api.OK)
	d.asks(5, "app", 0, api.ErrFull)
	d.asks(6, "web", 0, api.OK)
	return d
}

func TestP1WrongNumbersAndNames(t *testing.T) {
	for _, d := range []*desk{begin(t, "budget 1"), begin(t, textX), exampleFive(t)} {
		for _, n := range oddNumbers {
			d.asks(n, "app", 0, api.ErrClient)
			d.asks(n, "none", 0, api.ErrClient)
			d.dones(n, api.ErrClient)
			d.leaves(n, api.ErrClient)
			d.crashes(n, api.ErrServer)
		}
		for _, name := range oddNames {
			d.asks(9, name, 0, api.ErrPool)
			d.asks(0, name, 0, api.ErrClient)
		}
		for client := 7; client <= 99; client++ {
			d.dones(client, api.ErrIdle)
			d.leaves(client, api.ErrIdle)
			d.crashes(client, api.ErrServer)
		}
	}
}

func TestP1TheErrorNamedFirst(t *testing.T) {
	d := exampleFive(t)
	d.asks(0, "none", 0, api.ErrClient)
	d.asks(1, "none", 0, api.ErrBusy)
	d.asks(4, "none", 0, api.ErrBusy)
	d.asks(4, "app", 0, api.ErrBusy)
	d.asks(2, "app", 0, api.ErrBusy)
	d.asks(5, "none", 0, api.ErrPool)
	d.asks(5, "app", 0, api.ErrFull)
}

// spoil writes into all lists of an answer, and into their spare room.
func spoil(s api.State) {
	for i := range s.Table.Pools[:cap(s.Table.Pools)] {
		s.Table.Pools[:cap(s.Table.Pools)][i] = pool("spoilt", 19, 19, 19)
	}
	for i := range s.Servers[:cap(s.Servers)] {
		s.Servers[:cap(s.Servers)][i] = api.Server{Id: 77, Pool: "spoilt", Far: 77}
	}
	for i := range s.Waiters[:cap(s.Waiters)] {
		s.Waiters[:cap(s.Waiters)][i] = api.Waiter{Client: 77, Pool: "spoilt"}
	}
	for i := range s.Plan[:cap(s.Plan)] {
		s.Plan[:cap(s.Plan)][i] = api.Step{Kind: 77, Name: "spoilt", N: 77}
	}
}

func cloneState(s api.State) api.State {
	s.Table.Pools = slices.Clone(s.Table.Pools)
	s.Servers = slices.Clone(s.Servers)
	s.Waiters = slices.Clone(s.Waiters)
	s.Plan = slices.Clone(s.Plan)
	return s
}

func TestP2ShowAnswersFreshLists(t *testing.T) {
	r := rand.New(rand.NewSource(3))
	for i := 0; i < 300; i++ {
		d := begin(t, "budget 9|pool a size 4 wait 4 far 3|pool b size 4 wait 4|pool c size 5 wait 9")
		answers, wants := []api.State{}, []api.State{}
		for n := 0; n < 40; n++ {
			anyCall(d, r)
			early, late := d.p.Show(), d.p.Show()
			answers, wants = append(answers, early), append(wants, cloneState(early))
			spoil(late)
			// Behind the spoiling, d's next calls and looks still go by the model.
			d.look()
		}
		for n := range answers {
			if !sameState(answers[n], wants[n]) {
				t.Fatalf("%s: an answer became %+v, it was %+v", d.calls, answers[n], wants[n])
			}
			spoil(answers[n])
		}
		d.look()
		for n := 0; n < 10; n++ {
			anyCall(d, r)
		}
	}
}

func TestP2ListsThatGrowInPlaceAreNotShared(t *testing.T) {
	d := begin(t, "budget 99|pool a size 20 wait 20")
	for client := 1; client <= 40; client++ {
		s := d.p.Show()
		d.ask(client, "a")
		want := cloneState(d.p.Show())
		got := d.p.Show()
		spoil(s)
		if !sameState(got, want) {
			t.Fatalf("%s: writing into an earlier answer changed a later one: %+v, want %+v", d.calls, got, want)
		}
		d.look()
	}
}

func TestP2CompileAndNewShareNothing(t *testing.T) {
	compiled, _, _ := pooler.Compile(textX)
	p, _, _ := pooler.New(textX)
	shown := p.Show()
	spoil(api.State{Table: compiled})
	want := tableOf(3, pool("app", 2, 1, 5), pool("web", 1, 2, 0))
	if !same(shown.Table, want) || !same(p.Show().Table, want) {
		t.Errorf("writing into Compile's table changed a pooler's: %+v, %+v", shown.Table, p.Show().Table)
	}
	spoil(shown)
	if again, _, _ := pooler.Compile(textX); !same(again, want) || !same(p.Show().Table, want) {
		t.Errorf("writing into Show's table changed another: %+v, %+v", again, p.Show().Table)
	}
}

func TestP2SeveralPoolers(t *testing.T) {
	r := rand.New(rand.NewSource(4))
	for i := 0; i < 200; i++ {
		text := "budget 3|pool a size 2 wait 2|pool b wait 1 far 9"
		desks := []*desk{begin(t, text), begin(t, text), begin(t, textX)}
		for n := 0; n < 60; n++ {
			anyCall(desks[r.Intn(len(desks))], r)
			for _, d := range desks {
				d.look()
			}
		}
	}
}

func TestP2SameCallsSameAnswers(t *testing.T) {
	told := func() string {
		d := begin(t, "budget 4|pool a size 2 wait 2|pool b wait 1 far 9|pool c size 3 wait 3")
		r := rand.New(rand.NewSource(5))
		all := ""
		for n := 0; n < 200; n++ {
			anyCall(d, r)
			all += fmt.Sprintf("%+v", d.p.Show())
		}
		return all
	}
	if told() != told() {
		t.Error("two poolers of one text answered the same calls in two ways")
	}
}

func TestP6NewAnswersAsCompile(t *testing.T) {
	r := rand.New(rand.NewSource(6))
	texts := []string{"", "\n\n", textX, textY, "budget 1", "budget 0", "budget 1\npool a\npool a", "budget 1\npool p from q", "budget 1\nbase a from a", strings.Repeat("x", 1001), textX + strings.Repeat(" ", 1000)}
	for i := 0; i < 5000; i++ {
		texts = append(texts, randomText(r))
	}
	for _, text := range texts {
		want, wantE, wantLine := oracleCompile(text)
		p, e, line := pooler.New(text)
		if e != wantE || line != wantLine || (p == nil) != (e != api.OK) {
			t.Fatalf("New(%.200q) = %v, %d, %d, want %d, %d", text, p, e, line, wantE, wantLine)
		}
		if p != nil && !sameState(p.Show(), api.State{Table: want}) {
			t.Fatalf("New(%q): %+v, want %+v alone", text, p.Show(), want)
		}
	}
}

func TestP6ShowTellsAllInOrder(t *testing.T) {
	d := exampleFive(t)
	want := api.State{
		Table:   tableOf(3, pool("app", 2, 1, 5), pool("web", 1, 2, 0)),
		Servers: []api.Server{{Id: 1, Pool: "app", Far: 5, Client: 1}, {Id: 2, Pool: "app", Far: 5, Client: 2}, {Id: 3, Pool: "web", Client: 3}},
		Waiters: []api.Waiter{{Client: 4, Pool: "app"}, {Client: 6, Pool: "web"}},
	}
	for range 3 {
		if got := d.p.Show(); !sameState(got, want) {
			t.Errorf("Show() = %+v, want %+v", got, want)
		}
	}
	// By their Ids, though neither by pool nor by client; the line by who came, though not by client.
	d = begin(t, "budget 4|pool a size 2 wait 9|pool b size 2 wait 9|pool c wait 9")
	d.asks(9, "b", 1, api.OK)
	d.asks(8, "a", 2, api.OK)
	d.asks(1, "b", 3, api.OK)
	d.asks(2, "a", 4, api.OK)
	d.asks(7, "c", 0, api.OK)
	d.asks(5, "a", 0, api.OK)
	d.asks(6, "b", 0, api.OK)
	d.shows("1 b 0 9, 2 a 0 8, 3 b 0 1, 4 a 0 2; 7 c, 5 a, 6 b")
}

func TestP7AnIdleServerOfThePoolGoesFirst(t *testing.T) {
	d := begin(t, "budget 9|pool a size 4|pool b size 4 far 7")
	for client := 1; client <= 3; client++ {
		d.asks(client, "a", client, api.OK)
	}
	d.asks(4, "b", 4, api.OK)
	d.dones(3, api.OK)
	d.dones(2, api.OK)
	d.dones(4, api.OK)
	// There is room to open, but an idle one goes ahead of it: the one with the least Id, whenever it became idle.
	d.asks(5, "a", 2, api.OK)
	d.asks(6, "b", 4, api.OK)
	d.asks(7, "a", 3, api.OK)
	d.asks(8, "a", 5, api.OK)
	d.shows("1 a 0 1, 2 a 0 5, 3 a 0 7, 4 b 7 6, 5 a 0 8; ")
	d.asks(9, "a", 0, api.ErrFull)
}

func TestP7AServerIsOpenedBelowSizeAndBudget(t *testing.T) {
	d := begin(t, "budget 3|pool a size 2 wait 1 far 999|pool b size 2 wait 1|pool z size 0 wait 1")
	d.asks(9, "z", 0, api.OK)
	d.asks(1, "a", 1, api.OK)
	d.asks(2, "a", 2, api.OK)
	d.asks(3, "a", 0, api.OK)
	d.asks(4, "b", 3, api.OK)
	d.asks(5, "b", 0, api.OK)
	d.shows("1 a 999 1, 2 a 999 2, 3 b 0 4; 9 z, 3 a, 5 b")
	// A place within the Budget goes to the first who can be served by it: not 9, whose pool has no Size.
	d.crashes(1, api.OK)
	d.shows("2 a 999 2, 3 b 0 4, 4 a 999 3; 9 z, 5 b")
	d.crashes(4, api.OK)
	d.shows("2 a 999 2, 3 b 0 4, 5 b 0 5; 9 z")
	d.crashes(5, api.OK)
	d.shows("2 a 999 2, 3 b 0 4; 9 z")
}

func TestP7AnIdleServerOfAnotherPoolIsClosed(t *testing.T) {
	d := begin(t, "budget 1|pool a|pool b")
	d.asks(1, "a", 1, api.OK)
	d.dones(1, api.OK)
	d.shows("1 a 0 -; ")
	d.asks(2, "b", 2, api.OK)
	d.shows("2 b 0 2; ")
	// The least Id of all idle ones, of whatever other pool; and none is closed while the Budget has room.
	d = begin(t, "budget 4|pool a size 2|pool b|pool c size 3 far 4")
	d.asks(1, "b", 1, api.OK)
	d.asks(2, "a", 2, api.OK)
	d.asks(3, "a", 3, api.OK)
	d.dones(3, api.OK)
	d.dones(1, api.OK)
	d.asks(4, "c", 4, api.OK)
	d.shows("1 b 0 -, 2 a 0 2, 3 a 0 -, 4 c 4 4; ")
	d.asks(5, "c", 5, api.OK)
	d.shows("2 a 0 2, 3 a 0 -, 4 c 4 4, 5 c 4 5; ")
	d.asks(6, "c", 6, api.OK)
	d.shows("2 a 0 2, 4 c 4 4, 5 c 4 5, 6 c 4 6; ")
	// At its Size a pool gets none, though others are idle.
	d.dones(2, api.OK)
	d.asks(7, "c", 0, api.ErrFull)
	d.shows("2 a 0 -, 4 c 4 4, 5 c 4 5, 6 c 4 6; ")
	d.asks(8, "b", 7, api.OK)
	d.asks(9, "a", 0, api.ErrFull)
	d.shows("4 c 4 4, 5 c 4 5, 6 c 4 6, 7 b 0 8; ")
}

func TestP7TheFirstWhoCanBeServed(t *testing.T) {
	d := begin(t, "budget 2|pool a size 1 wait 3|pool b size 2 wait 3")
	d.asks(1, "a", 1, api.OK)
	d.asks(2, "b", 2, api.OK)
	d.asks(3, "a", 0, api.OK)
	d.asks(4, "b", 0, api.OK)
	d.asks(5, "a", 0, api.OK)
	d.asks(6, "b", 0, api.OK)
	// 3 came first, but a is at its Size: 4 is served.
	d.dones(2, api.OK)
	d.shows("1 a 0 1, 2 b 0 4; 3 a, 5 a, 6 b")
	// 3 is served with what 1 gives back; 6 goes on waiting behind 5.
	d.dones(1, api.OK)
	d.shows("1 a 0 3, 2 b 0 4; 5 a, 6 b")
	d.crashes(1, api.OK)
	d.shows("2 b 0 4, 3 a 0 5; 6 b")
	d.dones(5, api.OK)
	d.shows("2 b 0 4, 4 b 0 6; ")
}

func TestP8Ask(t *testing.T) {
	d := exampleFive(t)
	d.asks(4, "web", 0, api.ErrBusy)
	d.asks(7, "b", 0, api.ErrPool)
	d.asks(0, "app", 0, api.ErrClient)
	d.shows("1 app 5 1, 2 app 5 2, 3 web 0 3; 4 app, 6 web")
	// ErrFull leaves no trace: the client may ask for another pool.
	d.asks(5, "web", 0, api.OK)
	d.asks(7, "web", 0, api.ErrFull)
	d.shows("1 app 5 1, 2 app 5 2, 3 web 0 3; 4 app, 6 web, 5 web")
	d.leaves(6, api.OK)
	d.asks(7, "web", 0, api.OK)
	d.asks(6, "web", 0, api.ErrFull)
}

func TestP8TheWaitOfAPool(t *testing.T) {
	for _, wait := range []int{0, 1, 2, 19, 20} {
		d := begin(t, fmt.Sprintf("budget 2|pool a wait %d|pool b wait 20", wait))
		d.asks(90, "b", 1, api.OK)
		// Who waits for another pool does not count.
		for client := 91; client <= 99; client++ {
			d.asks(client, "b", 0, api.OK)
		}
		d.asks(1, "a", 2, api.OK)
		for client := 2; client < 2+wait; client++ {
			d.asks(client, "a", 0, api.OK)
		}
		d.asks(80, "a", 0, api.ErrFull)
		d.asks(81, "b", 0, api.OK)
		d.dones(1, api.OK)
		if wait > 0 {
			d.asks(80, "a", 0, api.OK)
			d.asks(82, "a", 0, api.ErrFull)
		} else {
			d.asks(80, "a", 2, api.OK)
		}
	}
}

func TestP8EveryClient(t *testing.T) {
	d := begin(t, "budget 99|pool a size 20|pool b size 20|pool c size 20|pool d size 20|pool e size 19|pool f size 20 wait 20")
	names := strings.Split("abcde", "")
	for client := 1; client <= 99; client++ {
		d.asks(client, names[(client-1)/20], client, api.OK)
	}
	d.asks(100, "f", 0, api.ErrClient)
	d.dones(99, api.OK)
	d.asks(99, "f", 100, api.OK)
	d.asks(99, "f", 0, api.ErrBusy)
	d.dones(1, api.OK)
	d.asks(1, "f", 101, api.OK)
}

func TestP9Examples(t *testing.T) {
	d := exampleFive(t)
	d.dones(1, api.OK)
	d.shows("1 app 5 4, 2 app 5 2, 3 web 0 3; 6 web")
	d.dones(1, api.ErrIdle)
	d.leaves(4, api.ErrIdle)
	d.crashes(9, api.ErrServer)
}

func TestP9Done(t *testing.T) {
	d := exampleFive(t)
	d.dones(4, api.ErrIdle)
	d.dones(5, api.ErrIdle)
	d.dones(3, api.OK)
	d.shows("1 app 5 1, 2 app 5 2, 3 web 0 6; 4 app")
	d.dones(6, api.OK)
	d.shows("1 app 5 1, 2 app 5 2, 3 web 0 -; 4 app")
	d.dones(6, api.ErrIdle)
	d.dones(2, api.OK)
	d.dones(4, api.OK)
	d.dones(1, api.OK)
	d.shows("1 app 5 -, 2 app 5 -, 3 web 0 -; ")
	// A client that ended its lease may ask again.
	d.asks(1, "web", 3, api.OK)
}

func TestP9Leave(t *testing.T) {
	d := exampleFive(t)
	for _, client := range []int{1, 2, 3, 5, 7, 99} {
		d.leaves(client, api.ErrIdle)
	}
	d.leaves(4, api.OK)
	d.shows("1 app 5 1, 2 app 5 2, 3 web 0 3; 6 web")
	d.leaves(4, api.ErrIdle)
	d.asks(5, "app", 0, api.OK)
	d.shows("1 app 5 1, 2 app 5 2, 3 web 0 3; 6 web, 5 app")
	d.asks(4, "app", 0, api.ErrFull)
	d.leaves(6, api.OK)
	d.leaves(5, api.OK)
	d.dones(1, api.OK)
	d.shows("1 app 5 -, 2 app 5 2, 3 web 0 3; ")
}

func TestP9Crash(t *testing.T) {
	d := exampleFive(t)
	d.crashes(4, api.ErrServer)
	d.crashes(0, api.ErrServer)
	d.crashes(2, api.OK)
	d.shows("1 app 5 1, 3 web 0 3, 4 app 5 4; 6 web")
	d.crashes(2, api.ErrServer)
	d.dones(2, api.ErrIdle)
	// Its client holds nothing, and may ask again.
	d.asks(2, "app", 0, api.OK)
	d.leaves(2, api.OK)
	d.dones(1, api.OK)
	d.crashes(1, api.OK)
	d.shows("3 web 0 3, 4 app 5 4; 6 web")
	// An Id is not given twice.
	d.asks(1, "app", 5, api.OK)
	d.crashes(3, api.OK)
	d.shows("4 app 5 4, 5 app 5 1, 6 web 0 6; ")
	for _, id := range []int{6, 5, 4} {
		d.crashes(id, api.OK)
	}
	d.shows("; ")
	for _, id := range []int{1, 2, 3, 4, 5, 6, 7} {
		d.crashes(id, api.ErrServer)
	}
	d.asks(1, "web", 7, api.OK)
}

// randomCall is mostly of a client and of a pool that there are, and answers its kind and error.
func randomCall(d *desk, r *rand.Rand) (int, api.Errno) {
	d.t.Helper()
	client := 1 + r.Intn(12)
	if r.Intn(30) == 0 {
		client = pickNumber(r)
	}
	switch r.Intn(10) {
	case 0, 1, 2, 3, 4:
		name := "none"
		if pools := d.m.table.Pools; len(pools) > 0 && r.Intn(30) > 0 {
			name = pools[r.Intn(len(pools))].Name
		}
		_, e := d.ask(client, name)
		return 0, e
	case 5, 6, 7:
		return 1, d.done(client)
	case 8:
		return 2, d.leave(client)
	}
	id := d.m.opened + 1 - r.Intn(8)
	if r.Intn(30) == 0 {
		id = pickNumber(r)
	}
	return 3, d.crash(id)
}

func pickNumber(r *rand.Rand) int {
	return oddNumbers[r.Intn(len(oddNumbers))]
}

// randomPools lays out some small pools, so that sizes, waits and the Budget are met often.
func randomPools(r *rand.Rand) string {
	text := fmt.Sprintf("budget %d", 1+r.Intn(6))
	for _, name := range strings.Split("abcdef", "")[:r.Intn(7)] {
		text += fmt.Sprintf("|pool %s size %d wait %d far %d", name, r.Intn(4), r.Intn(4), r.Intn(3))
	}
	return text
}

func TestP6ToP9AgainstTheModel(t *testing.T) {
	r := rand.New(rand.NewSource(7))
	met := [4][18]int{}
	for i := 0; i < 3000; i++ {
		d := begin(t, randomPools(r))
		for n := 0; n < 60; n++ {
			kind, e := randomCall(d, r)
			met[kind][e]++
		}
	}
	for kind, errors := range [4][]api.Errno{{api.OK, api.ErrClient, api.ErrBusy, api.ErrPool, api.ErrFull}, {api.OK, api.ErrClient, api.ErrIdle}, {api.OK, api.ErrClient, api.ErrIdle}, {api.OK, api.ErrServer}} {
		for _, e := range errors {
			if met[kind][e] < 100 {
				t.Errorf("call %d answered %d only %d times: the calls do not try it", kind, e, met[kind][e])
			}
		}
	}
}
