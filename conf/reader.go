package conf

import (
	"bulkhead/api"
	"bulkhead/bits"
)

// reader takes items apart; at the first one that is not right it gives up by a panic with a refusal, so that no item asks of those ahead of it.
type reader struct {
	*bits.Reader
}

// refusal: the first byte of what is not right, and what is wrong with it.
type refusal struct {
	at    int
	fault api.Errno
}

// read tells the configuration, or the refusal with which the reader gave up.
func read(b []byte) (c api.Config, no refusal) {
	defer func() {
		switch gone := recover().(type) {
		case nil:
		case refusal:
			c, no = api.Config{}, gone
		default: // a fault of the program's own is not hidden
			panic(gone)
		}
	}()
	r := reader{bits.NewReader(b)}
	r.mark()
	c = r.config()
	r.sum(b)
	return c, refusal{}
}

func (r reader) mark() {
	at := r.At()
	if item(r, r.U32()) != mark {
		panic(refusal{at, api.ErrConfForm})
	}
}

func (r reader) config() api.Config {
	return api.Config{
		Frames:     r.number(),
		Major:      r.number(),
		Kernel:     r.number(),
		Room:       r.number(),
		Cores:      readList(r, reader.core),
		Partitions: readList(r, reader.partition),
		Channels:   readList(r, reader.channel),
	}
}

func (r reader) core() []api.Window {
	return readList(r, reader.window)
}

func (r reader) window() api.Window {
	return api.Window{Partition: r.number() - 1, Usable: r.number(), Slack: r.number()}
}

func (r reader) partition() api.Partition {
	return api.Partition{
		Name:     item(r, r.Text(mostName)),
		Entry:    r.number(),
		Action:   r.number(),
		Restarts: r.number(),
		Inputs:   r.number(),
		Outputs:  r.number(),
		Regions:  readList(r, reader.region),
		Ports:    readList(r, reader.port),
	}
}

func (r reader) region() api.Region {
	return api.Region{Page: r.number(), Pages: r.number(), Frame: r.number(), Rights: r.number()}
}

func (r reader) port() api.Port {
	return api.Port{Channel: r.number(), Source: r.source()}
}

func (r reader) source() bool {
	at := r.At()
	n := item(r, r.U8())
	if n > 1 {
		panic(refusal{at, api.ErrConfForm})
	}
	return n == 1
}

func (r reader) channel() api.Channel {
	return api.Channel{Kind: r.number(), Words: r.number(), Depth: r.number()}
}

// sum is asked whether it is right only behind all else: bytes behind it weigh more.
func (r reader) sum(b []byte) {
	at := r.At()
	told := item(r, r.U32())
	if r.Left() > 0 {
		panic(refusal{r.At(), api.ErrConfForm})
	}
	if told != bits.Sum(b[:at]) {
		panic(refusal{at, api.ErrConfSum})
	}
}

func (r reader) number() int {
	return int(item(r, r.U32()))
}

func readList[T any](r reader, each func(reader) T) []T {
	var list []T
	for range item(r, r.U8()) {
		list = append(list, each(r))
	}
	return list
}

// item hands on what has been read, if it was there: with a fault the reader stands where the item began.
func item[T any](r reader, told T) T {
	if r.Fault() != api.OK {
		panic(refusal{r.At(), api.ErrConfForm})
	}
	return told
}
