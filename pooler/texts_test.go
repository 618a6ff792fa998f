package pooler_test

import (
	"fmt"
	"math"
	"math/rand"
	"slices"
	"strings"
	"testing"

	"pooler/api"
	"pooler/pooler"
)

const (
	textX = "budget 3\nbase b size 2 wait 1\npool web size 1 wait 2\npool app from b far 5"
	textY = "budget 2\npool app size 1 wait 1 far 6\npool log"
)

func tableOf(budget int, pools ...api.Pool) api.Table {
	return api.Table{Budget: budget, Pools: pools}
}

func pool(name string, size, wait, far int) api.Pool {
	return api.Pool{Name: name, Size: size, Wait: wait, Far: far}
}

func same(a, b api.Table) bool {
	return a.Budget == b.Budget && slices.Equal(a.Pools, b.Pools)
}

// bars stands in for newlines, as in the document's examples.
func bars(text string) string {
	return strings.ReplaceAll(text, "|", "\n")
}

// agree holds Compile against the oracle and answers the error.
func agree(t *testing.T, text string) api.Errno {
	t.Helper()
	got, e, line := pooler.Compile(text)
	want, wantE, wantLine := oracleCompile(text)
	if e != wantE || line != wantLine || !same(got, want) {
		t.Errorf("Compile(%.200q) = %+v, %d, %d, want %+v, %d, %d", text, got, e, line, want, wantE, wantLine)
	}
	return e
}

func TestP1EveryByte(t *testing.T) {
	for at := 0; at <= len(textX); at++ {
		for b := 0; b < 256; b++ {
			agree(t, textX[:at]+string([]byte{byte(b)})+textX[at:])
			if at < len(textX) {
				agree(t, textX[:at]+string([]byte{byte(b)})+textX[at+1:])
			}
		}
		agree(t, textX[:at])
		agree(t, textX[at:])
	}
}

func TestP1LongInputs(t *testing.T) {
	for _, text := range []string{
		strings.Repeat("\n", 1000), strings.Repeat(" ", 1000), strings.Repeat("a", 1000), strings.Repeat("a ", 500), strings.Repeat("\x00", 1000), strings.Repeat("\xff\n", 500),
		"budget 1\npool a" + strings.Repeat(" far 1", 160), "budget 1\nbase a from a" + strings.Repeat(" size 0", 130), "budget " + strings.Repeat("0", 990), "budget 1\npool " + strings.Repeat("a", 980),
		strings.Repeat("x", 1001), textX + strings.Repeat("\n", 1<<22),
	} {
		agree(t, text)
	}
	long := api.Table{Budget: 1, Pools: make([]api.Pool, 1<<20)}
	if s, e := pooler.Print(long); s != "" || e != api.ErrTable {
		t.Errorf("Print of a long list: %.20q, %d", s, e)
	}
}

func TestP2CompileAnswersFreshLists(t *testing.T) {
	first, _, _ := pooler.Compile(textX)
	second, _, _ := pooler.Compile(textX)
	want := tableOf(3, pool("app", 2, 1, 5), pool("web", 1, 2, 0))
	room := first.Pools[:cap(first.Pools)]
	for i := range room {
		room[i] = pool("x", 9, 9, 9)
	}
	third, _, _ := pooler.Compile(textX)
	if !same(second, want) || !same(third, want) {
		t.Errorf("writing into one answer changed another: %+v, %+v", second, third)
	}
}

func TestP2PrintLeavesItsTable(t *testing.T) {
	room := []api.Pool{pool("app", 2, 1, 5), pool("web", 1, 2, 0), pool("spare", 7, 7, 7), pool("room", 8, 8, 8)}
	before := slices.Clone(room)
	for n := 0; n <= len(room); n++ {
		pooler.Print(api.Table{Budget: 3, Pools: room[:n]})
		if !slices.Equal(room, before) {
			t.Fatalf("Print of %d pools left %+v", n, room)
		}
	}
}

func TestP2AnswersHangOnArgumentsAlone(t *testing.T) {
	texts := []string{textX, textY, "", "budget 1\npool a from q", strings.Repeat("x", 1001)}
	for round := 0; round < 3; round++ {
		for _, text := range texts {
			agree(t, text)
			pooler.Print(tableOf(5, pool("other", 1, 2, 3)))
			agree(t, text)
		}
	}
}

func TestP3Examples(t *testing.T) {
	for _, c := range []struct {
		text string
		e    api.Errno
		line int
	}{
		{"", api.ErrForm, 1}, {"||", api.ErrForm, 3}, {"pool a", api.ErrForm, 1}, {"budget 1|budget 1", api.ErrForm, 2}, {"budget 1|pool a size", api.ErrForm, 2}, {"budget 1|pool a from", api.ErrForm, 2}, {"budget 1|pool from from from", api.ErrBase, 2}, {"budget 1|pool abcdefghi", api.ErrForm, 2},
		{"budget 100", api.ErrNumber, 1}, {"budget 0", api.ErrNumber, 1}, {"budget 00012", api.ErrForm, 1}, {"budget 1|pool a size 21 size 1", api.ErrNumber, 2}, {"budget 1|pool a size 1 size 1", api.ErrTwice, 2}, {"budget 1||pool a|pool a", api.ErrTwice, 4}, {"budget 1|base a|pool a", api.OK, 0},
		{"budget 1|pool p from a|base a from b|base b from a", api.ErrLoop, 2}, {"budget 1|base a from b|base b from c|base c from d|base d|pool p from d", api.OK, 0}, {"budget 1|base a from b|base b from c|base c from d|base d|pool p from a", api.ErrDeep, 6}, {"budget 1|base a from a|pool p from q", api.ErrBase, 3},
	} {
		expect(t, c.text, c.e, c.line)
	}
}

// expect holds the error and the line against what is wanted, and the table against the oracle's.
func expect(t *testing.T, text string, e api.Errno, line int) {
	t.Helper()
	text = bars(text)
	_, gotE, gotLine := pooler.Compile(text)
	if gotE != e || gotLine != line {
		t.Errorf("Compile(%.80q): %d, %d, want %d, %d", text, gotE, gotLine, e, line)
	}
	agree(t, text)
}

func TestP3Length(t *testing.T) {
	for _, filler := range []string{" ", "\n"} {
		fits := textX + strings.Repeat(filler, 1000-len(textX))
		expect(t, fits, api.OK, 0)
		expect(t, fits+filler, api.ErrLong, 0)
	}
	expect(t, strings.Repeat("x", 1000), api.ErrForm, 1)
	expect(t, strings.Repeat("x", 1001), api.ErrLong, 0)
}

func TestP3Order(t *testing.T) {
	bases := "budget 1|base a|base b|base c|base d|base e|base f"
	pools := "budget 1|pool a|pool b|pool c|pool d|pool e|pool f"
	for _, c := range []struct {
		text string
		e    api.Errno
		line int
	}{
		// An earlier line's fault, whatever its kind, goes ahead of a later line's.
		{"budget 0|x", api.ErrNumber, 1}, {"budget 1|pool a far 1 far 1|pool b size 21|x", api.ErrTwice, 2}, {pools + "|pool g|x", api.ErrMany, 8},
		// Within a line: the form, the numbers, how many, what stands twice.
		{"budget 1|budget 0", api.ErrForm, 2}, {"|base a size 21 size 1", api.ErrForm, 2}, {pools + "|pool a size 99 size", api.ErrForm, 8}, {pools + "|pool a size 99 size 99", api.ErrNumber, 8}, {bases + "|base a far 1 far 1", api.ErrMany, 8}, {bases + "|pool a far 1 far 1", api.ErrTwice, 8}, {"budget 1|base a|base a wait 21", api.ErrNumber, 3},
		{bases, api.OK, 0}, {pools, api.OK, 0}, {bases + strings.TrimPrefix(pools, "budget 1"), api.OK, 0}, {bases + strings.TrimPrefix(pools, "budget 1") + "|base g", api.ErrMany, 14},
		// A key's second number is held against its bounds too, and a nought more does not make it another key.
		{"budget 1|pool a far 1 far 1000", api.ErrNumber, 2}, {"budget 1|pool a far 1 wait 1 far 01", api.ErrTwice, 2},
		// A line's own faults go ahead of what its base is; a missing base ahead of loops, loops ahead of depth.
		{"budget 1|pool p from q|pool p", api.ErrTwice, 3}, {"budget 1|base a from a|base b|base c from q", api.ErrBase, 4},
		{"budget 1|base a from b|base b from c|base c from d|base d from e|base e|base l from m|base m from l", api.ErrMany, 8}, {"budget 1|base a from b|base b from c|base c from d|base d from e|base e|base l from l", api.ErrLoop, 7},
		{"budget 1|pool p from a|base a from q", api.ErrBase, 3},
	} {
		expect(t, c.text, c.e, c.line)
	}
}

func TestP3Chains(t *testing.T) {
	for _, c := range []struct {
		text string
		e    api.Errno
		line int
	}{
		{"budget 1|base a from a", api.ErrLoop, 2}, {"budget 1|base f from a|base e from f|base d from e|base c from d|base b from c|base a from b", api.ErrLoop, 2}, {"budget 1|base z|base a from b|base b from b|pool p from z", api.ErrLoop, 3},
		// A base that leads into a loop, and is no part of it.
		{"budget 1|pool q from z|base z|pool p from c|base c from b|base b from b", api.ErrLoop, 4},
		// Six bases behind one another, none of them a loop.
		{"budget 1|base a from b|base b from c|base c from d|base d from e|base e from f|base f", api.ErrDeep, 2}, {"budget 1|base f|base e from f|base d from e|base c from d|base b from c|base a from b", api.ErrDeep, 6},
		{"budget 1|base f|base e from f|base d from e|base c from d|pool p from d", api.OK, 0}, {"budget 1|pool p from c|base f|base e from f|base d from e|base c from d", api.ErrDeep, 2},
		{"budget 1|pool a|pool b from a", api.ErrBase, 3}, {"budget 1|pool a from a|base a", api.OK, 0},
	} {
		expect(t, c.text, c.e, c.line)
	}
}

func TestP4Examples(t *testing.T) {
	for _, c := range []struct {
		text string
		want api.Table
	}{
		{textX, tableOf(3, pool("app", 2, 1, 5), pool("web", 1, 2, 0))},
		{textY, tableOf(2, pool("app", 1, 1, 6), pool("log", 1, 0, 0))},
		{"budget 1|base a size 5|base b from a wait 2|pool p from b far 1", tableOf(1, pool("p", 5, 2, 1))},
		{"  budget   099  ||", tableOf(99)},
		{"budget 1|base a size 3|base b from a", tableOf(1)},
		{"budget 1|pool p", tableOf(1, pool("p", 1, 0, 0))},
		{"budget 1|pool p from b|base b", tableOf(1, pool("p", 1, 0, 0))},
		// A nought that stands there is a value: it is not handed on to the base, nor does size become 1.
		{"budget 1|pool p from b size 0 wait 0 far 0|base b size 9 wait 9 far 9", tableOf(1, pool("p", 0, 0, 0))},
		{"budget 1|pool p from c|base c from b size 0|base b from a size 4 wait 0|base a size 5 wait 5 far 5", tableOf(1, pool("p", 0, 0, 5))},
		{"budget 1|pool b|pool ab|pool a|pool aa|pool abc|pool z", tableOf(1, pool("a", 1, 0, 0), pool("aa", 1, 0, 0), pool("ab", 1, 0, 0), pool("abc", 1, 0, 0), pool("b", 1, 0, 0), pool("z", 1, 0, 0))},
	} {
		if got, _, _ := pooler.Compile(bars(c.text)); !same(got, c.want) {
			t.Errorf("Compile(%q) = %+v, want %+v", c.text, got, c.want)
		}
	}
}

// pick takes one of some words.
func pick(r *rand.Rand, words ...string) string {
	return words[r.Intn(len(words))]
}

// oddLine has mostly no form.
func oddLine(r *rand.Rand) string {
	return pick(r, "", " ", "x", "budget 1", "pool", "base a from", "pool a size", "pool A", "pool a from b c", "base a", "pool a")
}

// randomLine is of a kind and name, and mostly of one of the bases, with some keys.
func randomLine(r *rand.Rand, kind, name string, bases []string) string {
	fields := []string{kind, name}
	if len(bases) > 0 && r.Intn(3) > 0 {
		fields = append(fields, "from", pick(r, bases...))
	}
	for _, key := range []string{"size", "wait", "far"} {
		if r.Intn(3) == 0 {
			fields = append(fields, key, pick(r, "0", "1", "2", "007", "019", "20"))
		}
	}
	if r.Intn(40) == 0 {
		fields = append(fields, pick(r, "size", "wait", "far"), pick(r, "1", "21", "999", "1000", "00000"))
	}
	return strings.Join(fields, pick(r, " ", " ", "  "))
}

// randomText has a few bases, each mostly of one that comes behind it in the order of their names here, so that some chains are long and few are loops; and a few pools.
func randomText(r *rand.Rand) string {
	names := []string{"a", "from", "c", "size", "abcdefgh", "f", "g"}
	r.Shuffle(len(names), func(i, j int) { names[i], names[j] = names[j], names[i] })
	count := r.Intn(7)
	if r.Intn(20) == 0 {
		count = 7
	}
	bases := names[:count]
	lines := []string{}
	for i, name := range bases {
		named := bases[i+1 : min(i+2, len(bases))]
		if r.Intn(20) == 0 {
			named = names
		}
		lines = append(lines, randomLine(r, "base", name, named))
	}
	for n := r.Intn(5) + r.Intn(4); n > 0; n-- {
		lines = append(lines, randomLine(r, "pool", pick(r, "p", "q", "b", "from", "far", "zz", "zy", "a", "abcdefgh")+pick(r, "", "", "x"), bases))
	}
	if r.Intn(6) == 0 {
		lines = append(lines, oddLine(r))
	}
	r.Shuffle(len(lines), func(i, j int) { lines[i], lines[j] = lines[j], lines[i] })
	first := pick(r, "budget 1", "budget 99", " budget 1", "budget 0042 ", "\nbudget 5", "budget 3", "budget 100", "pool a")
	return first + "\n" + strings.Join(lines, "\n")
}

func TestP3P4AgainstTheOracle(t *testing.T) {
	r := rand.New(rand.NewSource(1))
	met := [9]int{}
	for i := 0; i < 60000; i++ {
		text := randomText(r)
		if r.Intn(100) == 0 {
			text += strings.Repeat(" ", 1000)
		}
		e := agree(t, text)
		if e >= 0 && int(e) < len(met) {
			met[e]++
		}
	}
	for e, n := range met {
		if n < 100 {
			t.Errorf("error %d was met %d times alone: the texts do not try it", e, n)
		}
	}
}

func TestP5Print(t *testing.T) {
	for _, c := range []struct {
		t    api.Table
		want string
	}{
		{tableOf(3, pool("app", 2, 1, 5), pool("web", 1, 2, 0)), "budget 3\npool app size 2 wait 1 far 5\npool web size 1 wait 2 far 0\n"},
		{tableOf(1), "budget 1\n"},
		{api.Table{Budget: 99, Pools: []api.Pool{}}, "budget 99\n"},
		{tableOf(10, pool("from", 0, 0, 0), pool("pool", 20, 20, 999)), "budget 10\npool from size 0 wait 0 far 0\npool pool size 20 wait 20 far 999\n"},
	} {
		if got, e := pooler.Print(c.t); got != c.want || e != api.OK {
			t.Errorf("Print(%+v) = %q, %d, want %q", c.t, got, e, c.want)
		}
	}
}

// noTables are tables that are none, for one reason each.
func noTables() []api.Table {
	good := pool("b", 1, 1, 1)
	bad := []api.Table{{}, tableOf(5, good, good), tableOf(5, good, pool("a", 1, 1, 1)), tableOf(5, good, pool("ba", 1, 1, 1), pool("aa", 1, 1, 1)), tableOf(5, letterPools("abcdefg")...)}
	for _, n := range []int{math.MinInt, -1, 0, 100, math.MaxInt} {
		bad = append(bad, tableOf(n), tableOf(n, good))
	}
	for _, n := range []int{math.MinInt, -1, 21, math.MaxInt} {
		bad = append(bad, tableOf(5, pool("a", n, 0, 0), good), tableOf(5, good, pool("c", 0, n, 0)))
	}
	for _, n := range []int{math.MinInt, -1, 1000, math.MaxInt} {
		bad = append(bad, tableOf(5, pool("a", 0, 0, n)))
	}
	for _, name := range []string{"", "A", "a1", "a b", " a", "a\n", "abcdefghi", "\xff"} {
		bad = append(bad, tableOf(5, pool(name, 0, 0, 0)))
	}
	return bad
}

// letterPools has a pool for each letter.
func letterPools(letters string) []api.Pool {
	pools := []api.Pool{}
	for _, name := range strings.Split(letters, "") {
		pools = append(pools, pool(name, 1, 1, 1))
	}
	return pools
}

func TestP5NoTable(t *testing.T) {
	for _, b := range noTables() {
		if got, e := pooler.Print(b); got != "" || e != api.ErrTable {
			t.Errorf("Print(%+v) = %q, %d", b, got, e)
		}
	}
	if _, e := pooler.Print(tableOf(5, letterPools("abcdef")...)); e != api.OK {
		t.Errorf("Print of six pools: %d", e)
	}
}

func TestP5CompileGivesItAgain(t *testing.T) {
	r := rand.New(rand.NewSource(2))
	names := []string{"a", "ab", "abcdefgh", "base", "far", "from", "pool", "zzzzzzzz"}
	for i := 0; i < 5000; i++ {
		want := tableOf(1 + r.Intn(99))
		text := fmt.Sprintf("budget %d\n", want.Budget)
		for _, name := range names {
			if len(want.Pools) < 6 && r.Intn(4) > 0 {
				p := pool(name, r.Intn(21), r.Intn(21), r.Intn(1000))
				want.Pools = append(want.Pools, p)
				text += fmt.Sprintf("pool %s size %d wait %d far %d\n", name, p.Size, p.Wait, p.Far)
			}
		}
		printed, e := pooler.Print(want)
		if printed != text || e != api.OK {
			t.Fatalf("Print(%+v) = %q, %d, want %q", want, printed, e, text)
		}
		if got, e, line := pooler.Compile(printed); e != api.OK || line != 0 || !same(got, want) {
			t.Fatalf("Compile(%q) = %+v, %d, %d", printed, got, e, line)
		}
	}
}
