package text

import "bulkhead/api"

const (
	// mostNumber is the greatest number that a line can say.
	mostNumber = 1<<31 - 1

	// nobody is the number of nobody's windows, nobodyWord how a line says it.
	nobody     = -1
	nobodyWord = "none"

	// allRights is the greatest of the rights' numbers.
	allRights = 7
)

// actions: the actions' words by their numbers.
var actions = [...]string{api.ActionHalt: "halt", api.ActionWarm: "warm", api.ActionCold: "cold"}

// wordsOf tells the words of a line, its comment left out.
func wordsOf(line string) []string {
	var words []string
	begin := 0
	for i, r := range line {
		switch r {
		case ' ', '\t', '\r', '#':
			if begin < i {
				words = append(words, line[begin:i])
			}
			begin = i + 1
		}
		if r == '#' {
			return words
		}
	}
	if begin < len(line) {
		words = append(words, line[begin:])
	}
	return words
}

func isName(word string) bool {
	if word == "" || len(word) > api.MaxName {
		return false
	}
	for i, r := range word {
		switch {
		case 'a' <= r && r <= 'z':
		case i > 0 && ('0' <= r && r <= '9' || r == '-'):
		default:
			return false
		}
	}
	return true
}

// numberOf reads a number. It stops at the first digit by which it grows too great: no kind of integer has room for all that digits can say.
func numberOf(word string) (int, bool) {
	var n int64
	for _, r := range word {
		if r < '0' || r > '9' {
			return 0, false
		}
		n = n*10 + int64(r-'0')
		if n > mostNumber {
			return 0, false
		}
	}
	return int(n), true
}

// windowOwner reads whose window it is: a number, or nobody.
func windowOwner(word string) (int, bool) {
	if word == nobodyWord {
		return nobody, true
	}
	return numberOf(word)
}

// rightsWord writes rights: the letters stand in the order of the bits, from the lowest on.
func rightsWord(rights int) string {
	if rights == 0 {
		return "-"
	}
	word := ""
	for bit, letter := range "rwx" {
		if rights>>bit&1 == 1 {
			word += string(letter)
		}
	}
	return word
}

// rightsOf reads rights: each of the few that there are has just one word.
func rightsOf(word string) (int, bool) {
	for rights := range allRights + 1 {
		if rightsWord(rights) == word {
			return rights, true
		}
	}
	return 0, false
}
