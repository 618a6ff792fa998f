package table

import (
	"math"
	"strings"
	"testing"

	"pooler/api"
)

func TestIsName(t *testing.T) {
	for _, word := range []string{"a", "z", "size", "from", "abcdefgh", "zzzzzzzz"} {
		if !IsName(word) {
			t.Errorf("IsName(%q) = false", word)
		}
	}
	for _, word := range []string{"", " ", "A", "Z", "`", "{", "a1", "a ", " a", "a\n", "ä", "a\x00", "abcdefghi", strings.Repeat("a", 1<<20)} {
		if IsName(word) {
			t.Errorf("IsName(%.20q) = true", word)
		}
	}
}

func TestFits(t *testing.T) {
	for _, c := range []struct {
		word        string
		least, most int
	}{
		{Budget, 1, 99}, {Size, 0, 20}, {Wait, 0, 20}, {Far, 0, 999},
	} {
		for _, n := range []int{c.least, c.least + 1, c.most - 1, c.most} {
			if !Fits(c.word, n) {
				t.Errorf("Fits(%s, %d) = false", c.word, n)
			}
		}
		for _, n := range []int{math.MinInt, c.least - 1, c.most + 1, math.MaxInt} {
			if Fits(c.word, n) {
				t.Errorf("Fits(%s, %d) = true", c.word, n)
			}
		}
	}
	if Fits("pool", 1) {
		t.Error("a word that is none fits")
	}
}

func TestInsert(t *testing.T) {
	room := []api.Pool{{Name: "b"}, {Name: "d"}, {Name: "spare"}}
	for _, c := range []struct{ name, want string }{
		{"a", "a b d"}, {"bb", "b bb d"}, {"c", "b c d"}, {"da", "b d da"}, {"z", "b d z"},
	} {
		got := Insert(room[:2], api.Pool{Name: c.name})
		names := []string{}
		for _, p := range got {
			names = append(names, p.Name)
		}
		if strings.Join(names, " ") != c.want {
			t.Errorf("Insert of %s: %v, want %s", c.name, names, c.want)
		}
		for i := range got {
			got[i].Name = "x"
		}
		if room[0].Name != "b" || room[1].Name != "d" || room[2].Name != "spare" {
			t.Fatalf("Insert of %s wrote into the list: %v", c.name, room)
		}
	}
}

func TestWithout(t *testing.T) {
	room := []api.Pool{{Name: "a"}, {Name: "ab"}, {Name: "b"}, {Name: "spare"}}
	for _, c := range []struct{ name, want string }{
		{"a", "ab b"}, {"ab", "a b"}, {"b", "a ab"}, {"spare", "a ab b"}, {"", "a ab b"},
	} {
		got := Without(room[:3], c.name)
		names := []string{}
		for _, p := range got {
			names = append(names, p.Name)
		}
		if strings.Join(names, " ") != c.want {
			t.Errorf("Without %q: %v, want %s", c.name, names, c.want)
		}
		for i := range got[:cap(got)] {
			got[:cap(got)][i].Name = "x"
		}
		if room[0].Name != "a" || room[1].Name != "ab" || room[2].Name != "b" || room[3].Name != "spare" {
			t.Fatalf("Without %q wrote into the list: %v", c.name, room)
		}
	}
}

func TestFindAndHas(t *testing.T) {
	pools := []api.Pool{{Name: "a", Size: 1}, {Name: "ab", Size: 2}, {Name: "b", Size: 3}}
	for i, name := range []string{"a", "ab", "b"} {
		if p, ok := Find(pools, name); !ok || p != pools[i] {
			t.Errorf("Find(%s) = %+v, %t", name, p, ok)
		}
		if !Has(pools, name) {
			t.Errorf("Has(%s) = false", name)
		}
	}
	for _, name := range []string{"", "A", "abc", "c", "a "} {
		if p, ok := Find(pools, name); ok || p != (api.Pool{}) {
			t.Errorf("Find(%q) = %+v, %t", name, p, ok)
		}
		if Has(pools, name) {
			t.Errorf("Has(%q) = true", name)
		}
	}
	if _, ok := Find(nil, ""); ok || Has(nil, "") {
		t.Error("a pool was found among none")
	}
}

func TestCopy(t *testing.T) {
	room := []api.Pool{{Name: "a"}, {Name: "b"}, {Name: "spare"}}
	first := Copy(api.Table{Budget: 7, Pools: room[:2]})
	second := Copy(first)
	if first.Budget != 7 || len(first.Pools) != 2 || first.Pools[0] != room[0] || first.Pools[1] != room[1] {
		t.Fatalf("Copy: %+v", first)
	}
	for i := range first.Pools[:cap(first.Pools)] {
		first.Pools[:cap(first.Pools)][i].Name = "x"
	}
	if room[0].Name != "a" || room[1].Name != "b" || room[2].Name != "spare" || second.Pools[0].Name != "a" || second.Pools[1].Name != "b" {
		t.Errorf("copies share room: %v, %v", room, second)
	}
}
