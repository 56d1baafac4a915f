package tale

import (
	"testing"

	"bulkhead/api"
	"bulkhead/kernel"
	"bulkhead/layout"
	"bulkhead/text"
)

// P32.2: what no script of a bearable length comes to: cores at their end, and problems.
func TestAtTheEnd(t *testing.T) {
	c, _, e := text.Parse("memory 16\nmajor 364\nkernel 8 4\npartition a entry 0 action halt restarts 0 inputs 1 outputs 1\nregion 0 1 2 rwx\ncore\nwindow 0 282 82\nend\n")
	if e != api.OK {
		t.Fatal(e)
	}
	k, _ := kernel.New(c, nil, nil)
	l, _ := layout.Of(c)
	words := k.Memory().Words()
	words[l.Barrier+1] = api.MaxEpoch
	k, e = kernel.Restore(c, nil, nil, words, []api.CoreState{{Epoch: api.MaxEpoch, Mode: api.ModeEnd}})
	if e != api.OK {
		t.Fatal(e)
	}
	x := &teller{config: c, machine: k, numbers: []uint32{0, 1}, records: make([]record, 1)}
	for _, do := range []func() error{x.doEpoch, x.doCores, x.doStep, x.doAudit} {
		if err := do(); err != nil {
			t.Error(err)
		}
	}
	x.tellProblems([]api.Problem{{Kind: api.ProblemBarrier, Index: -1, At: 640}, {Kind: api.ProblemCore, Index: 3, At: 0}})
	want := `  epoch 1073741824
  core 0 epoch 1073741824 window 0 used 0 end partition none
  core 0 blocked
  fine
  problem 4 -1 640
  problem 7 3 0
`
	if got := x.transcript.String(); got != want {
		t.Error(got)
	}
}

// Every command that has a form does something, and the other way round.
func TestTables(t *testing.T) {
	a, b := forms(), deeds()
	for word := range a {
		if b[word] == nil || a[word].may == nil {
			t.Error(word)
		}
	}
	if len(a) != len(b) || len(a) != 18 {
		t.Error(len(a), len(b))
	}
}
