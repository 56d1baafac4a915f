package crew

import (
	"sync"

	"bulkhead/api"
	"bulkhead/kernel"
)

// team is a machine, a worker for each of its cores, and what has been told.
type team struct {
	k       *kernel.Kernel
	traces  []api.Trace
	workers []worker
	joined  sync.WaitGroup
}

// worker lets its core go ahead, order by order.
type worker struct {
	orders  chan int // each is the core's number
	through chan []api.Turn
}

// teamOf makes one whose workers wait for orders, till they are dismissed.
func teamOf(k *kernel.Kernel) *team {
	t := &team{k: k, traces: tracesOf(k)}
	for range k.Cores() {
		// With room for an answer no worker hangs on who hears it.
		w := worker{orders: make(chan int), through: make(chan []api.Turn, 1)}
		t.workers = append(t.workers, w)
		t.joined.Add(1)
		go t.work(w)
	}
	return t
}

// work does a worker's orders till there are no more.
func (t *team) work(w worker) {
	defer t.joined.Done()
	for core := range w.orders {
		// A machine refuses none of its own cores.
		turns, _ := t.k.Ahead(core)
		w.through <- turns
	}
}

// dismiss ends all workers.
func (t *team) dismiss() {
	for _, w := range t.workers {
		close(w.orders)
	}
	t.joined.Wait()
}

// play goes on till each core waits to leave into an epoch, or is at its end. Till then not all are blocked, and when they have gone ahead none runs: so it is over when none does a step in meet.
func (t *team) play(epoch int) {
	for busy := true; busy; {
		t.ahead()
		busy = false
		for t.meet(epoch) {
			busy = true
		}
	}
}

// ahead lets the cores go ahead side by side, each as long as it touches its own words alone.
func (t *team) ahead() {
	for core, w := range t.workers {
		w.orders <- core
	}
	for _, w := range t.workers {
		// They are heard by their numbers, one at a time, so that nobody sees who was through first.
		select {
		case turns := <-w.through:
			for _, turn := range turns {
				note(t.traces, turn)
			}
		}
	}
}

// meet lets the cores that touch what is not theirs alone do a step each, one behind the other; false: all were blocked. Who waits to leave into the epoch stays.
func (t *team) meet(epoch int) bool {
	some := false
	for core, v := range t.k.Cores() {
		if v.Mode == api.ModeRun || v.Mode == api.ModeWait && v.Epoch == epoch-1 {
			continue
		}
		if step(t.k, core, t.traces) {
			some = true
		}
	}
	return some
}
