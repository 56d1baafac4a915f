package tale_test

import (
	"math/rand/v2"
	"strings"
	"testing"

	"bulkhead/api"
	"bulkhead/tale"
)

// garble changes a script in a drawn way.
func garble(r *rand.Rand, script string) string {
	lines := strings.SplitAfter(script, "\n")
	i, j := r.IntN(len(lines)), r.IntN(len(lines))
	at := r.IntN(len(script))
	switch r.IntN(7) {
	case 0:
		return script[:at] + string([]byte{byte(r.IntN(256))}) + script[at+1:]
	case 1:
		return script[:at] + script[at+1:]
	case 2:
		return script[:at] + []string{" ", "\n", "#", "9", "0", "-", "end", "done", "\x00", "\xff", "é"}[r.IntN(11)] + script[at:]
	case 3:
		lines[i], lines[j] = lines[j], lines[i]
	case 4:
		lines[i] = ""
	case 5:
		lines[i] += lines[j]
	case 6:
		lines[i] = strings.TrimSuffix(lines[i], "\n")
	}
	return strings.Join(lines, "")
}

// P32.1: whatever a script is, it is played, or refused with a line of it and an error's number; and what was told ahead of that line is not told.
func TestGarbage(t *testing.T) {
	r := rand.New(rand.NewPCG(321, 1))
	whys := map[api.Errno]int{}
	for range 6000 {
		script := examples()[r.IntN(10)].script
		for range 1 + r.IntN(3) {
			script = garble(r, script)
		}
		got, err := tale.Run(script)
		if err == nil {
			whys[api.OK]++
			continue
		}
		f, is := err.(*tale.Fault)
		if !is || got != "" {
			t.Fatalf("%q: %q, %v", script, got, err)
		}
		why, is := f.Why.(api.Errno)
		if !is || why == api.OK || f.Line < 1 || f.Line > strings.Count(script, "\n")+1 {
			t.Fatalf("%q: %v", script, err)
		}
		whys[why]++
		// What stands behind that line is not looked at; and all that stands ahead of it may be played, if it is no part of a configuration or program.
		head := strings.Join(strings.SplitAfter(script, "\n")[:f.Line-1], "")
		if why == line || why == state {
			if _, err := tale.Run(head); err != nil {
				t.Fatalf("%q: %v", head, err)
			}
		}
	}
	if len(whys) < 15 || whys[api.OK] < 200 {
		t.Error(whys)
	}
	for range 2000 {
		b := make([]byte, r.IntN(100))
		for i := range b {
			b[i] = byte(r.IntN(256))
		}
		if got, err := tale.Run(string(b)); err != nil && got != "" {
			t.Fatalf("%q: %q, %v", b, got, err)
		}
	}
}
