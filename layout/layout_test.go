package layout

import (
	"slices"
	"strings"
	"testing"
)

func TestSplit(t *testing.T) {
	for _, c := range []struct {
		text string
		want []string
	}{
		{"", []string{""}}, {"a", []string{"a"}}, {"\n", []string{"", ""}}, {"\n\na\n", []string{"", "", "a", ""}}, {"a b\nc", []string{"a b", "c"}},
	} {
		if got := split(c.text, newline); !slices.Equal(got, c.want) {
			t.Errorf("split(%q) = %q, want %q", c.text, got, c.want)
		}
	}
}

func TestFields(t *testing.T) {
	for _, c := range []struct {
		text string
		want []string
	}{
		{"", nil}, {"   ", nil}, {"a", []string{"a"}}, {"  a   b ", []string{"a", "b"}}, {"a\tb\r c\u00a0d", []string{"a\tb\r", "c\u00a0d"}},
	} {
		if got := fieldsOf(c.text); !slices.Equal(got, c.want) {
			t.Errorf("fieldsOf(%q) = %q, want %q", c.text, got, c.want)
		}
	}
}

func TestNumber(t *testing.T) {
	for _, c := range []struct {
		field string
		want  int
		ok    bool
	}{
		{"0", 0, true}, {"7", 7, true}, {"007", 7, true}, {"0000", 0, true}, {"9999", 9999, true}, {"1234", 1234, true},
		{"", 0, false}, {"00000", 0, false}, {"10000", 0, false}, {"-1", 0, false}, {"+1", 0, false}, {"1.0", 0, false}, {"x", 0, false}, {"1x", 0, false}, {"0x1", 0, false}, {"1_0", 0, false}, {"/", 0, false}, {":", 0, false}, {"\u0661", 0, false},
	} {
		got, ok := parseNumber(c.field)
		if ok != c.ok || got != c.want {
			t.Errorf("parseNumber(%q) = %d, %t, want %d, %t", c.field, got, ok, c.want, c.ok)
		}
	}
}

func TestParse(t *testing.T) {
	for _, c := range []struct {
		text string
		kind int
		name string
		from string
		keys string
	}{
		{"budget 7", budgetLine, "", "", "budget"},
		{"base a", baseLine, "a", "", ""},
		{"base a from b", baseLine, "a", "b", ""},
		{"pool a size 1", poolLine, "a", "", "size"},
		{"pool size size 1", poolLine, "size", "", "size"},
		{"pool from", poolLine, "from", "", ""},
		{"pool from far 1", poolLine, "from", "", "far"},
		{"pool from from from", poolLine, "from", "from", ""},
		{"pool a from size size 1", poolLine, "a", "size", "size"},
		{"pool a from b far 1 wait 2 far 3", poolLine, "a", "b", "far wait far"},
	} {
		l, ok := parse(strings.Fields(c.text))
		keys := []string{}
		for _, s := range l.settings {
			keys = append(keys, s.word)
		}
		if !ok || l.kind != c.kind || l.name != c.name || l.from != c.from || strings.Join(keys, " ") != c.keys {
			t.Errorf("parse(%q) = %+v, %t", c.text, l, ok)
		}
	}
	for _, text := range []string{
		"", "x", "budget", "budget a", "budget 1 2", "budget size 1", "base", "pool", "base 1", "pool a b", "pool a 1", "pool a size", "pool a size size", "pool a from", "pool a from 1", "pool a from size 1", "pool a from b from c", "pool a size 1 from b", "pool a budget 1", "pool a size 1 wait",
	} {
		if l, ok := parse(strings.Fields(text)); ok {
			t.Errorf("parse(%q) = %+v", text, l)
		}
	}
}
