package table

import (
	"strconv"

	"pooler/api"
)

// Print writes a table as a text (P5).
func Print(t api.Table) (string, api.Errno) {
	if !IsTable(t) {
		return "", api.ErrTable
	}
	text := entry(Budget, t.Budget) + "\n"
	for i := 0; i < len(t.Pools); i++ {
		text += poolLine(t.Pools[i])
	}
	return text, api.OK
}

func poolLine(p api.Pool) string {
	line := "pool " + p.Name
	line += " " + entry(Size, p.Size)
	line += " " + entry(Wait, p.Wait)
	line += " " + entry(Far, p.Far)
	return line + "\n"
}

func entry(word string, number int) string {
	return word + " " + strconv.Itoa(number)
}
