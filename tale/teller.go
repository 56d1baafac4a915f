package tale

import (
	"strconv"
	"strings"

	"bulkhead/api"
	"bulkhead/kernel"
)

// A teller goes through a script, and keeps what its commands have made.
type teller struct {
	lines []string
	done  int // how many of the lines are
	forms map[string]form
	deeds map[string]func(*teller) error

	// Of the command that is being done:
	numbers []uint32 // those behind its first word
	body    []string // the lines behind it that belong to it, the one that ends them among them

	config   api.Config // no cores: none has come
	programs [][]uint32
	written  []bool // which partitions have a program
	feeds    []api.Feed
	machine  *kernel.Kernel // nil: not booted
	records  []record
	image    []byte // nil: none is kept

	transcript strings.Builder
}

// next does the command of the next line, if there is one.
func (t *teller) next() error {
	words := wordsOf(bare(t.lines[t.done]))
	t.done++
	if len(words) == 0 {
		return nil
	}
	f, ok := t.forms[words[0]]
	if !ok || !t.read(f, words[1:]) {
		return api.ErrTaleLine
	}
	if !f.may(t) {
		return api.ErrTaleState
	}
	t.write(">", words)
	if err := t.deeds[words[0]](t); err != nil {
		return err
	}
	if t.transcript.Len() > api.MaxText {
		return api.ErrLong
	}
	return nil
}

// tell puts a line of what a command tells into the transcript.
func (t *teller) tell(words ...string) { t.write(" ", words) }

// write puts a line into the transcript. Of a transcript that is too long already nothing more is wanted.
func (t *teller) write(mark string, words []string) {
	if t.transcript.Len() > api.MaxText {
		return
	}
	t.transcript.WriteString(mark)
	for _, word := range words {
		t.transcript.WriteString(" ")
		t.transcript.WriteString(word)
	}
	t.transcript.WriteString("\n")
}

// digits is a number as the transcript writes it.
func digits[N int | uint32](n N) string { return strconv.FormatInt(int64(n), 10) }
