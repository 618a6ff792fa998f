package table

import "pooler/api"

// The words that stand ahead of a number in a text. The last three are the keys.
const (
	Budget = "budget"
	Size   = "size"
	Wait   = "wait"
	Far    = "far"
)

// IsKey tells whether a field is one of the keys.
func IsKey(word string) bool {
	return word == Size || word == Wait || word == Far
}

// Fits tells whether a number may stand with a word.
func Fits(word string, number int) bool {
	switch word {
	case Budget:
		return number >= 1 && number <= api.MaxBudget
	case Size:
		return number >= 0 && number <= api.MaxSize
	case Wait:
		return number >= 0 && number <= api.MaxWait
	case Far:
		return number >= 0 && number <= api.MaxFar
	}
	return false
}

// IsName tells whether a word is a pool's or a base's name.
func IsName(word string) bool {
	if len(word) < 1 || len(word) > api.MaxName {
		return false
	}
	for i := 0; i < len(word); i++ {
		if word[i] < 'a' || word[i] > 'z' {
			return false
		}
	}
	return true
}
