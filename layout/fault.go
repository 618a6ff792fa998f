package layout

import (
	"pooler/api"
	"pooler/table"
)

// faultOf is the first fault of a line that stands behind the lines ahead, none of which has one.
func faultOf(l line, ahead []line) api.Errno {
	first := len(ahead) == 0
	if first != (l.kind == budgetLine) {
		return api.ErrForm
	}
	if !numbersFit(l) {
		return api.ErrNumber
	}
	if tooMany(l, ahead) {
		return api.ErrMany
	}
	if keyTwice(l) {
		return api.ErrTwice
	}
	namesake := find(ahead, l.kind, l.name)
	if namesake.kind != noLine {
		return api.ErrTwice
	}
	return api.OK
}

func numbersFit(l line) bool {
	for i := 0; i < len(l.settings); i++ {
		if !table.Fits(l.settings[i].word, l.settings[i].number) {
			return false
		}
	}
	return true
}

func tooMany(l line, ahead []line) bool {
	count := 0
	for i := 0; i < len(ahead); i++ {
		if ahead[i].kind == l.kind {
			count++
		}
	}
	switch l.kind {
	case baseLine:
		return count >= api.MaxBases
	case poolLine:
		return count >= api.MaxPools
	}
	return false
}

func keyTwice(l line) bool {
	for i := 0; i < len(l.settings); i++ {
		for j := 0; j < i; j++ {
			if l.settings[j].word == l.settings[i].word {
				return true
			}
		}
	}
	return false
}
