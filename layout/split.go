package layout

const (
	newline = 10
	blank   = 32
)

// split cuts a text at each byte that is at: there is one piece more than such bytes, and pieces may be empty.
func split(text string, at byte) []string {
	pieces := []string{}
	start := 0
	for i := 0; i < len(text); i++ {
		if text[i] == at {
			pieces = append(pieces, text[start:i])
			start = i + 1
		}
	}
	return append(pieces, text[start:])
}

// fieldsOf leaves out the empty pieces, since a run of blanks parts two fields just as one blank does.
func fieldsOf(text string) []string {
	pieces := split(text, blank)
	fields := []string{}
	for i := 0; i < len(pieces); i++ {
		if pieces[i] != "" {
			fields = append(fields, pieces[i])
		}
	}
	return fields
}
