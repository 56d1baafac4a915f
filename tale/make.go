package tale

import (
	"strings"

	"bulkhead/admit"
	"bulkhead/api"
	"bulkhead/asm"
	"bulkhead/boot"
	"bulkhead/device"
	"bulkhead/kernel"
	"bulkhead/text"
)

// doConfig reads the configuration.
func (t *teller) doConfig() error {
	c, line, e := text.Parse(strings.Join(t.body, "\n"))
	if e != api.OK {
		return &Fault{Line: line, Why: e}
	}
	if e, _ := admit.Check(c); e != api.OK {
		return &Fault{Line: len(t.body), Why: e}
	}
	t.config = c
	t.programs = make([][]uint32, len(c.Partitions))
	t.written = make([]bool, len(c.Partitions))
	t.records = make([]record, len(c.Partitions))
	t.tell("cores", digits(len(c.Cores)), "partitions", digits(len(c.Partitions)), "channels", digits(len(c.Channels)))
	return nil
}

// doProgram reads a partition's program.
func (t *teller) doProgram() error {
	source := t.body[:len(t.body)-1]
	words, line, e := asm.Assemble(strings.Join(source, "\n"))
	if e != api.OK {
		return &Fault{Line: line, Why: e}
	}
	p := t.numbers[0]
	t.programs[p], t.written[p] = words, true
	t.tell("words", digits(len(words)))
	return nil
}

// doFeed keeps a feed. Whether it may be is asked when the machine is made.
func (t *teller) doFeed() error {
	t.feeds = append(t.feeds, api.Feed{Partition: int(t.numbers[0]), Epoch: int(t.numbers[1]), Words: t.numbers[2:]})
	return nil
}

// doBoot makes the machine. The layers below it are asked first, as the machine does not tell which of them has refused.
func (t *teller) doBoot() error {
	if _, e, _ := boot.Boot(t.config, t.programs); e != api.OK {
		return e
	}
	if _, e := device.New(t.config, t.feeds); e != api.OK {
		return e
	}
	k, e := kernel.New(t.config, t.programs, t.feeds)
	t.machine = k
	return fault(e)
}
