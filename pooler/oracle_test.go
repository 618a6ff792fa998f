package pooler_test

import (
	"regexp"
	"sort"
	"strconv"
	"strings"

	"pooler/api"
)

// This is Compile a second time, by other means than the program's, so that the two can be held against each other.

var (
	budgetForm = regexp.MustCompile(`^budget ([0-9]{1,4})$`)
	namedForm  = regexp.MustCompile(`^(base|pool) ([a-z]{1,8})(?: from ([a-z]{1,8}))?((?: (?:size|wait|far) [0-9]{1,4})*)$`)
	blanks     = regexp.MustCompile(` +`)
	ranges     = map[string][2]int{"budget": {1, 99}, "size": {0, 20}, "wait": {0, 20}, "far": {0, 999}}
	defaults   = map[string]int{"size": 1, "wait": 0, "far": 0}
)

type entry struct {
	at               int
	kind, name, from string
	keys             map[string]int
}

// oracleEntry answers a line, the fault of its form or numbers, and whether a key stands in it twice.
func oracleEntry(line string) (entry, api.Errno, bool) {
	if m := budgetForm.FindStringSubmatch(line); m != nil {
		n, _ := strconv.Atoi(m[1])
		e := entry{kind: "budget", keys: map[string]int{"budget": n}}
		if n < 1 || n > 99 {
			return e, api.ErrNumber, false
		}
		return e, api.OK, false
	}
	m := namedForm.FindStringSubmatch(line)
	if m == nil {
		return entry{}, api.ErrForm, false
	}
	e := entry{kind: m[1], name: m[2], from: m[3], keys: map[string]int{}}
	words := strings.Fields(m[4])
	twice, bad := false, false
	for i := 0; i < len(words); i += 2 {
		n, _ := strconv.Atoi(words[i+1])
		if r := ranges[words[i]]; n < r[0] || n > r[1] {
			bad = true
		}
		if _, there := e.keys[words[i]]; there {
			twice = true
		}
		e.keys[words[i]] = n
	}
	if bad {
		return e, api.ErrNumber, twice
	}
	return e, api.OK, twice
}

func oracleCompile(text string) (api.Table, api.Errno, int) {
	none := api.Table{}
	if len(text) > 1000 {
		return none, api.ErrLong, 0
	}
	lines := strings.Split(text, "\n")
	entries := []entry{}
	counts := map[string]int{}
	bases, seen := map[string]entry{}, map[string]bool{}
	for i, line := range lines {
		line = blanks.ReplaceAllString(strings.Trim(line, " "), " ")
		if line == "" {
			continue
		}
		e, fault, twice := oracleEntry(line)
		e.at = i + 1
		if fault != api.ErrForm && (e.kind == "budget") != (len(entries) == 0) {
			fault = api.ErrForm
		}
		if fault == api.OK && counts[e.kind] >= 6 {
			fault = api.ErrMany
		}
		if fault == api.OK && (twice || seen[e.kind+" "+e.name]) {
			fault = api.ErrTwice
		}
		if fault != api.OK {
			return none, fault, i + 1
		}
		counts[e.kind]++
		seen[e.kind+" "+e.name] = true
		if e.kind == "base" {
			bases[e.name] = e
		}
		entries = append(entries, e)
	}
	if len(entries) == 0 {
		return none, api.ErrForm, len(lines)
	}
	for _, e := range entries {
		if _, there := bases[e.from]; e.from != "" && !there {
			return none, api.ErrBase, e.at
		}
	}
	deep := 0
	for _, e := range entries {
		visited := map[string]bool{}
		for at := e.from; at != ""; at = bases[at].from {
			if visited[at] {
				return none, api.ErrLoop, e.at
			}
			visited[at] = true
		}
		if len(visited) > 3 && deep == 0 {
			deep = e.at
		}
	}
	if deep > 0 {
		return none, api.ErrDeep, deep
	}
	return oracleTable(entries, bases), api.OK, 0
}

func oracleTable(entries []entry, bases map[string]entry) api.Table {
	t := api.Table{Budget: entries[0].keys["budget"]}
	for _, e := range entries {
		if e.kind == "pool" {
			t.Pools = append(t.Pools, api.Pool{Name: e.name, Size: oracleValue(e, "size", bases), Wait: oracleValue(e, "wait", bases), Far: oracleValue(e, "far", bases)})
		}
	}
	sort.Slice(t.Pools, func(i, j int) bool { return t.Pools[i].Name < t.Pools[j].Name })
	return t
}

func oracleValue(e entry, key string, bases map[string]entry) int {
	if n, there := e.keys[key]; there {
		return n
	}
	if e.from == "" {
		return defaults[key]
	}
	return oracleValue(bases[e.from], key, bases)
}
