package tale

import (
	"bulkhead/api"
	"bulkhead/crew"
	"bulkhead/image"
)

// doStep lets a core step.
func (t *teller) doStep() error {
	for range t.numbers[1] {
		turn, e := t.machine.Step(int(t.numbers[0]))
		if e != api.OK {
			return e
		}
		t.hear(turn)
		t.tell("core", digits(turn.Core), stepName(turn.Kind))
	}
	return nil
}

// doRound lets each core step once, and that so often.
func (t *teller) doRound() error {
	for range t.numbers[0] {
		for core := range t.config.Cores {
			turn, e := t.machine.Step(core)
			if e != api.OK {
				return e
			}
			t.hear(turn)
		}
	}
	return t.doEpoch()
}

// doRun plays whole frames.
func (t *teller) doRun() error {
	traces, e := crew.Run(t.machine, int(t.numbers[0]))
	if e != api.OK {
		return e
	}
	for p, trace := range traces {
		t.records[p].follow(trace)
	}
	return t.doEpoch()
}

// doSave keeps the machine's image.
func (t *teller) doSave() error {
	b, e := image.Save(t.machine)
	t.image = b
	return fault(e)
}

// doLoad goes on with the machine of the image. The records stay as they are.
func (t *teller) doLoad() error {
	k, e := image.Load(t.image, t.config, t.programs, t.feeds)
	t.machine = k
	return fault(e)
}
