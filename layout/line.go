package layout

import "pooler/table"

// The kinds of lines that have fields; and noLine, of what stands for a line where there is none.
const (
	noLine     = 0
	budgetLine = 1
	baseLine   = 2
	poolLine   = 3
)

// maxDigits is how many digits a number may have, needless noughts among them.
const maxDigits = 4

// setting is a word and the number that stands with it.
type setting struct {
	word   string
	number int
}

// line is a line that has one of the forms; a budget line's one setting is its budget.
type line struct {
	place    int // the line's number in the text
	kind     int
	name     string // "": of a budget line
	from     string // "": it names no base
	settings []setting
}

// parse makes the line of some fields; false: they have not one of the forms.
func parse(fields []string) (line, bool) {
	if len(fields) == 0 {
		return line{}, false
	}
	rest := fields[1:]
	switch fields[0] {
	case "budget":
		return parseBudget(rest)
	case "base":
		return parseNamed(baseLine, rest)
	case "pool":
		return parseNamed(poolLine, rest)
	}
	return line{}, false
}

// parseBudget takes the fields behind the first one, as parseNamed does.
func parseBudget(fields []string) (line, bool) {
	if len(fields) != 1 {
		return line{}, false
	}
	number, ok := parseNumber(fields[0])
	budget := setting{word: table.Budget, number: number}
	return line{kind: budgetLine, settings: []setting{budget}}, ok
}

func parseNamed(kind int, fields []string) (line, bool) {
	if len(fields) == 0 || !table.IsName(fields[0]) {
		return line{}, false
	}
	l := line{kind: kind, name: fields[0]}
	rest := fields[1:]
	if len(rest) > 0 && rest[0] == "from" {
		if len(rest) < 2 || !table.IsName(rest[1]) {
			return line{}, false
		}
		l.from = rest[1]
		rest = rest[2:]
	}
	settings, ok := parseSettings(rest)
	l.settings = settings
	return l, ok
}

// parseSettings makes settings of keys and numbers by turns.
func parseSettings(fields []string) ([]setting, bool) {
	if len(fields)%2 != 0 {
		return nil, false
	}
	settings := []setting{}
	for i := 0; i+1 < len(fields); i += 2 {
		number, ok := parseNumber(fields[i+1])
		if !ok || !table.IsKey(fields[i]) {
			return nil, false
		}
		settings = append(settings, setting{word: fields[i], number: number})
	}
	return settings, true
}

func parseNumber(field string) (int, bool) {
	if len(field) < 1 || len(field) > maxDigits {
		return 0, false
	}
	number := 0
	for i := 0; i < len(field); i++ {
		if field[i] < '0' || field[i] > '9' {
			return 0, false
		}
		number = number*10 + int(field[i]-'0')
	}
	return number, true
}

// numberOf is the number that stands with a word in l; false: the word is not there.
func (l line) numberOf(word string) (int, bool) {
	for i := 0; i < len(l.settings); i++ {
		if l.settings[i].word == word {
			return l.settings[i].number, true
		}
	}
	return 0, false
}

// find is the first line of this kind and name; noLine is its kind if there is none.
func find(lines []line, kind int, name string) line {
	for i := 0; i < len(lines); i++ {
		if lines[i].kind == kind && lines[i].name == name {
			return lines[i]
		}
	}
	return line{kind: noLine}
}
