package tale

import (
	"slices"
	"strconv"
	"strings"
)

// bare is a line without its comment.
func bare(line string) string {
	line, _, _ = strings.Cut(line, "#")
	return line
}

// wordsOf tells a line's words.
func wordsOf(line string) []string {
	return strings.FieldsFunc(line, func(r rune) bool { return r == ' ' || r == '\t' || r == '\r' })
}

// endsConfig tells whether a line is a configuration's last one.
func endsConfig(line string) bool { return slices.Equal(wordsOf(bare(line)), []string{"end"}) }

// endsProgram tells whether a line is the one behind a program. A program has no comments of the script's kind.
func endsProgram(line string) bool { return slices.Equal(wordsOf(line), []string{"done"}) }

// numberOf reads a word as a number that is not above most.
func numberOf(word string, most int64) (uint32, bool) {
	n, err := strconv.ParseUint(word, 10, 32)
	return uint32(n), err == nil && int64(n) <= most
}
