// Package layout makes tables of texts.
package layout

import (
	"pooler/api"
	"pooler/table"
)

// Compile makes the table of a text; with an error, the line (P3, P4).
func Compile(text string) (api.Table, api.Errno, int) {
	if len(text) > api.MaxText {
		return api.Table{}, api.ErrLong, 0
	}
	lines, e, place := readLines(text)
	if e != api.OK {
		return api.Table{}, e, place
	}
	e, place = chainFault(lines)
	if e != api.OK {
		return api.Table{}, e, place
	}
	return tableOf(lines), api.OK, 0
}

// readLines makes the lines that have fields; or it answers the fault of the first line that has one, and that line's number.
func readLines(text string) ([]line, api.Errno, int) {
	pieces := split(text, newline)
	lines := []line{}
	for i := 0; i < len(pieces); i++ {
		fields := fieldsOf(pieces[i])
		if len(fields) > 0 {
			l, e := readLine(fields, lines)
			if e != api.OK {
				return nil, e, i + 1
			}
			l.place = i + 1
			lines = append(lines, l)
		}
	}
	if len(lines) == 0 {
		return nil, api.ErrForm, len(pieces)
	}
	return lines, api.OK, 0
}

func readLine(fields []string, ahead []line) (line, api.Errno) {
	l, ok := parse(fields)
	if !ok {
		return line{}, api.ErrForm
	}
	return l, faultOf(l, ahead)
}

// tableOf makes the table of lines without a fault.
func tableOf(lines []line) api.Table {
	t := api.Table{}
	for i := 0; i < len(lines); i++ {
		switch lines[i].kind {
		case budgetLine:
			t.Budget = valueOf(table.Budget, lines[i], nil, 0)
		case poolLine:
			p := poolOf(lines[i], lines)
			t.Pools = table.Insert(t.Pools, p)
		}
	}
	return t
}

func poolOf(l line, lines []line) api.Pool {
	chain := chainOf(l, lines)
	p := api.Pool{Name: l.name}
	p.Size = valueOf(table.Size, l, chain, 1)
	p.Wait = valueOf(table.Wait, l, chain, 0)
	p.Far = valueOf(table.Far, l, chain, 0)
	return p
}

// valueOf is the number that stands with a word in a line, else in the first of its chain that has the word, else the other number.
func valueOf(word string, l line, chain []line, other int) int {
	number, ok := l.numberOf(word)
	if ok {
		return number
	}
	for i := 0; i < len(chain); i++ {
		number, ok = chain[i].numberOf(word)
		if ok {
			return number
		}
	}
	return other
}
