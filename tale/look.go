package tale

import (
	"strings"

	"bulkhead/api"
	"bulkhead/asm"
	"bulkhead/audit"
	"bulkhead/solo"
	"bulkhead/trial"
)

// doEpoch tells how many frames are over.
func (t *teller) doEpoch() error {
	t.tell("epoch", digits(t.machine.Epoch()))
	return nil
}

// doCores tells how the cores stand.
func (t *teller) doCores() error {
	for core, v := range t.machine.Cores() {
		whose := "none"
		if v.Partition >= 0 {
			whose = digits(v.Partition)
		}
		t.tell("core", digits(core), "epoch", digits(v.Epoch), "window", digits(v.Window), "used", digits(v.Used), modeName(v.Mode), "partition", whose)
	}
	return nil
}

// doPartitions tells how the partitions stand.
func (t *teller) doPartitions() error {
	for p, s := range t.machine.Partitions() {
		t.tell("partition", digits(p), t.config.Partitions[p].Name, stateName(s.State), "restarts", digits(s.Restarts), "trap", digits(s.Trap), "pc", digits(s.PC), "outs", digits(s.Outs))
	}
	return nil
}

// doSeen tells what a partition has seen since it was told last.
func (t *teller) doSeen() error {
	for _, x := range t.records[t.numbers[0]].seen.fresh() {
		t.tell(seenWords(x)...)
	}
	return nil
}

// seenWords tells what a partition has seen of an instruction.
func seenWords(x api.Seen) []string {
	ins := "none" // there is no word, where none could be fetched
	if x.Trap != api.TrapFetch {
		ins = strings.TrimSuffix(asm.List([]uint32{x.Word}), "\n")
	}
	words := []string{"at", moment(x.Epoch, x.Cycle), "pc", digits(x.PC), ins}
	if x.Trap != api.TrapNone {
		words = append(words, "trap", digits(x.Trap))
	}
	if x.Read {
		words = append(words, "read", digits(x.Addr), digits(x.Value))
	}
	for i, value := range x.After.Regs {
		if value != 0 {
			words = append(words, "r"+digits(i)+"="+digits(value))
		}
	}
	return words
}

// doOuts tells what a partition has told its device since it was told last.
func (t *teller) doOuts() error {
	for _, x := range t.records[t.numbers[0]].outs.fresh() {
		t.tell("at", digits(x.Epoch), "word", digits(x.Word))
	}
	return nil
}

// doEvents tells what has become of a partition since it was told last.
func (t *teller) doEvents() error {
	for _, x := range t.records[t.numbers[0]].events.fresh() {
		words := []string{"at", moment(x.Epoch, x.Cycle), eventName(x.Kind)}
		if x.Kind == api.EventTrap || x.Kind == api.EventHalt {
			words = append(words, digits(x.Trap))
		}
		t.tell(words...)
	}
	return nil
}

// doWords tells words of the memory.
func (t *teller) doWords() error {
	at := int(t.numbers[0])
	words, e := t.machine.Memory().Take(at, int(t.numbers[1]))
	for i, word := range words {
		t.tell(digits(at+i)+":", digits(word))
	}
	return fault(e)
}

// doAudit tells what is not as it must be.
func (t *teller) doAudit() error {
	problems, e := audit.Machine(t.machine)
	if e != api.OK {
		return e
	}
	t.tellProblems(problems)
	return nil
}

// tellProblems tells what an audit has found.
func (t *teller) tellProblems(problems []api.Problem) {
	for _, x := range problems {
		t.tell("problem", digits(x.Kind), digits(x.Index), digits(x.At))
	}
	if len(problems) == 0 {
		t.tell("fine")
	}
}

// doSolo holds what a partition has seen beside what it sees by itself.
func (t *teller) doSolo() error {
	p := t.numbers[0]
	traces, e := solo.Run(t.config, t.programs, t.feeds, int(t.numbers[1]))
	if e != api.OK {
		return e
	}
	seen := &t.records[p].seen
	v := trial.Hold(seen.kept, traces[p].Seen)
	if v.Same {
		t.tell("same", digits(seen.all), digits(v.Another))
	} else {
		t.tell("other", "at", digits(v.At))
	}
	return nil
}
