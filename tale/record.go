package tale

import "bulkhead/api"

// most is how many things of a kind a record keeps: as many as solo.Run can see (an instruction takes a cycle at least), and more than a transcript can tell.
const most = api.MaxEpochs * api.MaxMajor

// A record is what has come of a partition since boot.
type record struct {
	seen   row[api.Seen]
	events row[api.Event]
	outs   row[api.Out]
}

// A row keeps the first things of a kind. Those that find no room are counted alone: whoever asked for them would be told the ones ahead of them first, and that is too long.
type row[T any] struct {
	kept []T
	all  int // how many there were, with those that found no room
	told int // how many of those that are kept were told
}

// add puts things behind those that are there.
func (r *row[T]) add(things ...T) {
	r.all += len(things)
	room := most - len(r.kept)
	r.kept = append(r.kept, things[:min(room, len(things))]...)
}

// fresh tells those that were not told yet.
func (r *row[T]) fresh() []T {
	things := r.kept[r.told:]
	r.told = len(r.kept)
	return things
}

// hear keeps what a step tells. What has become of no partition stands in no record.
func (t *teller) hear(turn api.Turn) {
	for _, x := range turn.Seen {
		t.records[x.Partition].seen.add(x)
	}
	for _, x := range turn.Events {
		if x.Partition >= 0 {
			t.records[x.Partition].events.add(x)
		}
	}
	for _, x := range turn.Outs {
		t.records[x.Partition].outs.add(x)
	}
}

// follow keeps what several steps have told of a partition.
func (r *record) follow(trace api.Trace) {
	r.seen.add(trace.Seen...)
	r.events.add(trace.Events...)
	r.outs.add(trace.Outs...)
}
