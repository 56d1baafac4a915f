package tale

import (
	"math"
	"slices"

	"bulkhead/api"
)

// A form of a command: which numbers stand behind its first word, which line ends those behind it that belong to it, and where it may come.
type form struct {
	must  []operand
	spare operand                // may be left out: it is 1 then; nil: there is none
	more  operand                // may stand as often as one likes; nil: there is none
	ends  func(line string) bool // nil: no lines belong to it
	may   func(*teller) bool
}

// An operand tells the greatest number that may stand in its place.
type operand = func(*teller) int64

// forms tells the commands' forms by their first words.
func forms() map[string]form {
	partition := []operand{(*teller).lastPartition}
	return map[string]form{
		"config":     {ends: endsConfig, may: (*teller).isFirst},
		"program":    {must: partition, ends: endsProgram, may: (*teller).isUnwritten},
		"feed":       {must: []operand{(*teller).lastPartition, (*teller).anyNumber}, more: (*teller).anyWord, may: (*teller).isAhead},
		"boot":       {may: (*teller).isReady},
		"step":       {must: []operand{(*teller).lastCore}, spare: (*teller).mostTimes, may: (*teller).isBehind},
		"round":      {spare: (*teller).mostTimes, may: (*teller).isBehind},
		"run":        {spare: (*teller).anyNumber, may: (*teller).isBehind},
		"cores":      {may: (*teller).isBehind},
		"partitions": {may: (*teller).isBehind},
		"epoch":      {may: (*teller).isBehind},
		"seen":       {must: partition, may: (*teller).isBehind},
		"outs":       {must: partition, may: (*teller).isBehind},
		"events":     {must: partition, may: (*teller).isBehind},
		"words":      {must: []operand{(*teller).anyNumber, (*teller).mostWords}, may: (*teller).isBehind},
		"audit":      {may: (*teller).isBehind},
		"solo":       {must: []operand{(*teller).lastPartition, (*teller).anyNumber}, may: (*teller).isBehind},
		"save":       {may: (*teller).isBehind},
		"load":       {may: (*teller).isKept},
	}
}

// deeds tells what the commands do by their first words.
func deeds() map[string]func(*teller) error {
	return map[string]func(*teller) error{
		"config":     (*teller).doConfig,
		"program":    (*teller).doProgram,
		"feed":       (*teller).doFeed,
		"boot":       (*teller).doBoot,
		"step":       (*teller).doStep,
		"round":      (*teller).doRound,
		"run":        (*teller).doRun,
		"cores":      (*teller).doCores,
		"partitions": (*teller).doPartitions,
		"epoch":      (*teller).doEpoch,
		"seen":       (*teller).doSeen,
		"outs":       (*teller).doOuts,
		"events":     (*teller).doEvents,
		"words":      (*teller).doWords,
		"audit":      (*teller).doAudit,
		"solo":       (*teller).doSolo,
		"save":       (*teller).doSave,
		"load":       (*teller).doLoad,
	}
}

func (t *teller) anyNumber() int64     { return math.MaxInt32 }
func (t *teller) anyWord() int64       { return math.MaxUint32 }
func (t *teller) lastCore() int64      { return int64(len(t.config.Cores)) - 1 }
func (t *teller) lastPartition() int64 { return int64(len(t.config.Partitions)) - 1 }
func (t *teller) mostTimes() int64     { return api.MaxPicks }
func (t *teller) mostWords() int64     { return 64 }

func (t *teller) isFirst() bool     { return len(t.config.Cores) == 0 }
func (t *teller) isAhead() bool     { return t.machine == nil }
func (t *teller) isUnwritten() bool { return t.isAhead() && !t.written[t.numbers[0]] }
func (t *teller) isReady() bool     { return t.isAhead() && !t.isFirst() }
func (t *teller) isBehind() bool    { return t.machine != nil }
func (t *teller) isKept() bool      { return t.image != nil }

// read takes the numbers of a command, and the lines that belong to it; false, if they are not as they must be.
func (t *teller) read(f form, words []string) bool {
	operands := slices.Clone(f.must)
	if f.spare != nil && len(operands) < len(words) {
		operands = append(operands, f.spare)
	}
	for f.more != nil && len(operands) < len(words) {
		operands = append(operands, f.more)
	}
	if len(operands) != len(words) {
		return false
	}
	t.numbers = nil // those of a command ahead may be kept
	for i, most := range operands {
		n, ok := numberOf(words[i], most(t))
		if !ok {
			return false
		}
		t.numbers = append(t.numbers, n)
	}
	if f.spare != nil && len(operands) == len(f.must) {
		t.numbers = append(t.numbers, 1)
	}
	return t.readBody(f)
}

// readBody takes the lines behind a command that belong to it; false, if none ends them.
func (t *teller) readBody(f form) bool {
	t.body = nil
	if f.ends == nil {
		return true
	}
	last := slices.IndexFunc(t.lines[t.done:], f.ends)
	if last < 0 {
		return false
	}
	t.body = t.lines[t.done : t.done+last+1]
	t.done += len(t.body)
	return true
}
