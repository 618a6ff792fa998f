package layout

import "pooler/api"

// chainOf is the chain of l. One without an end is cut behind MaxBases + 1 bases: there are no more than MaxBases, so no chain that has an end is as long.
func chainOf(l line, lines []line) []line {
	chain := []line{}
	name := l.from
	for len(chain) <= api.MaxBases {
		base := find(lines, baseLine, name)
		if base.kind == noLine {
			return chain
		}
		chain = append(chain, base)
		name = base.from
	}
	return chain
}

// chainFault is the fault of the lines' chains, and the number of its line. Each kind of fault is sought in all lines ahead of the next kind.
func chainFault(lines []line) (api.Errno, int) {
	for i := 0; i < len(lines); i++ {
		if !baseThere(lines[i], lines) {
			return api.ErrBase, lines[i].place
		}
	}
	place := longer(lines, api.MaxBases)
	if place > 0 {
		return api.ErrLoop, place
	}
	place = longer(lines, api.MaxDeep)
	if place > 0 {
		return api.ErrDeep, place
	}
	return api.OK, 0
}

func baseThere(l line, lines []line) bool {
	if l.from == "" {
		return true
	}
	base := find(lines, baseLine, l.from)
	return base.kind != noLine
}

// longer is the number of the first line whose chain has more bases than most; 0: there is none.
func longer(lines []line, most int) int {
	for i := 0; i < len(lines); i++ {
		chain := chainOf(lines[i], lines)
		if len(chain) > most {
			return lines[i].place
		}
	}
	return 0
}
