package tale_test

import (
	"strings"
	"testing"

	"bulkhead/tale"
)

// P32.1, P32.2: the document's examples of the whole: scripts, and what their transcripts tell behind the boot.
func TestExamples(t *testing.T) {
	for _, x := range examples() {
		got, err := tale.Run(x.script)
		_, behind, there := strings.Cut(got, "> boot\n")
		if err != nil || !there || behind != x.told {
			t.Errorf("%s: %v\n%s", x.what, err, got)
		}
	}
}

// An example: a script, and what its transcript tells behind the boot.
type example struct{ what, script, told string }

func examples() []example {
	return []example{
		{"A message, the next frame, and its age: core 0 sends, core 1 receives", `config
memory 10
major 182
kernel 2 8
channel sampling 1
partition one entry 0 action halt restarts 0 inputs 0 outputs 0
  region 0 1 0 rwx
  port 0 source
partition two entry 0 action halt restarts 0 inputs 0 outputs 0
  region 0 1 1 rwx
  port 0 dest
core
  window 0 100 82
core
  window 1 100 82
end
program 0
  li r2, 9
  li r3, 1
  hyp 1 ; send the word 9 of the space
  hyp 0
  jmp 2
  space 4
  word 77
done
program 1
  li r2, 9
  hyp 2 ; receive
  hyp 0
  jmp -3
done
boot
run 1
seen 0
seen 1
run 2
seen 1
`, `> run 1
  epoch 1
> seen 0
  at 0:14 pc 0 li r2, 9 r2=9
  at 0:16 pc 1 li r3, 1 r2=9 r3=1
  at 0:41 pc 2 hyp 1
  at 0:66 pc 3 hyp 0
> seen 1
  at 0:14 pc 0 li r2, 9 r2=9
  at 0:39 pc 1 hyp 2 r1=6
  at 0:64 pc 2 hyp 0
> run 2
  epoch 3
> seen 1
  at 1:14 pc 3 jmp -3
  at 1:16 pc 0 li r2, 9 r2=9
  at 1:41 pc 1 hyp 2 r2=1 r3=1
  at 1:66 pc 2 hyp 0
  at 2:14 pc 3 jmp -3
  at 2:16 pc 0 li r2, 9 r2=9
  at 2:41 pc 1 hyp 2 r2=1
  at 2:66 pc 2 hyp 0
`},
		{"A queue of one message that nobody empties: what finds it full is lost, and counted for the receiver alone", `config
memory 10
major 364
kernel 2 8
channel queuing 1 1
partition one entry 0 action halt restarts 0 inputs 0 outputs 0
  region 0 1 0 rwx
  port 0 source
partition two entry 0 action halt restarts 0 inputs 0 outputs 1
  region 0 1 1 rwx
  port 0 dest
core
  window 0 100 82
  window 1 100 82
end
program 0
  li r3, 1
  hyp 1
  li r1, 0
  hyp 1 ; the stage is full
  hyp 7
done
program 1
  hyp 3 ; status
  hyp 0
  jmp -2
done
boot
run 2
seen 0
seen 1
events 0
`, `> run 2
  epoch 2
> seen 0
  at 0:14 pc 0 li r3, 1 r3=1
  at 0:39 pc 1 hyp 1
  at 0:41 pc 2 li r1, 0
  at 0:66 pc 3 hyp 1 r1=3
  at 0:97 pc 4 hyp 7
> seen 1
  at 0:219 pc 0 hyp 3
  at 0:244 pc 1 hyp 0
  at 1:196 pc 2 jmp -2
  at 1:221 pc 0 hyp 3 r2=1
  at 1:246 pc 1 hyp 0
> events 0
  at 0:97 stop
`},
		{"A trap, and a beginning anew: warm keeps the memory, once; then it is halted", `config
memory 6
major 364
kernel 2 4
partition a entry 0 action warm restarts 1 inputs 0 outputs 0
  region 0 1 0 rwx
core
  window 0 100 82
  window 0 100 82
end
program 0
  ld r1, r0, 8
  addi r1, r1, 1
  st r1, r0, 8
  div r2, r1, r0
done
boot
run 2
seen 0
events 0
partitions
words 8 1
`, `> run 2
  epoch 2
> seen 0
  at 0:21 pc 0 ld r1, r0, 8 read 8 0
  at 0:23 pc 1 addi r1, r1, 1 r1=1
  at 0:26 pc 2 st r1, r0, 8 r1=1
  at 0:37 pc 3 div r2, r1, r0 trap 5 r1=1
  at 0:203 pc 0 ld r1, r0, 8 read 8 1 r1=1
  at 0:205 pc 1 addi r1, r1, 1 r1=2
  at 0:208 pc 2 st r1, r0, 8 r1=2
  at 0:219 pc 3 div r2, r1, r0 trap 5 r1=2
> events 0
  at 0:37 trap 5
  at 0:182 warm
  at 0:219 trap 5
  at 0:219 halt 5
> partitions
  partition 0 a halted restarts 1 trap 5 pc 3 outs 0
> words 8 1
  8: 2
`},
		{"The same, cold: its memory is as at the beginning", `config
memory 6
major 364
kernel 2 4
partition a entry 0 action cold restarts 1 inputs 0 outputs 0
  region 0 1 0 rwx
core
  window 0 100 82
  window 0 100 82
end
program 0
  ld r1, r0, 8
  addi r1, r1, 1
  st r1, r0, 8
  div r2, r1, r0
done
boot
run 1
events 0
words 8 1
`, `> run 1
  epoch 1
> events 0
  at 0:37 trap 5
  at 0:182 cold
  at 0:219 trap 5
  at 0:219 halt 5
> words 8 1
  8: 1
`},
		{"Each window begins with an empty TLB and an empty cache: the counter tells it", `config
memory 6
major 224
kernel 2 4
partition a entry 0 action halt restarts 0 inputs 0 outputs 0
  region 0 1 0 rwx
core
  window 0 40 82
  window none 20 82
end
program 0
  cyc r1
  cyc r2
  cyc r3
  hyp 0
  jmp -4
done
boot
run 2
seen 0
`, `> run 2
  epoch 2
> seen 0
  at 0:14 pc 0 cyc r1
  at 0:16 pc 1 cyc r2 r2=14
  at 0:18 pc 2 cyc r3 r2=14 r3=16
  at 0:43 pc 3 hyp 0
  at 1:14 pc 4 jmp -4
  at 1:22 pc 0 cyc r1 r1=238
  at 1:24 pc 1 cyc r2 r1=238 r2=246
  at 1:26 pc 2 cyc r3 r1=238 r2=246 r3=248
  at 1:51 pc 3 hyp 0
`},
		{"Walls: a word that is not there, one that may be read alone, a place behind the space", `config
memory 7
major 182
kernel 2 5
partition a entry 0 action warm restarts 2 inputs 0 outputs 0
  region 0 1 0 rx
  region 255 1 1 rw
core
  window 0 100 82
end
program 0
  cyc r1
  li r2, 4095
  ld r3, r2, 0 ; the second and third time: 1, 2
  addi r3, r3, 1
  st r3, r2, 0
  addi r4, r3, -2
  beq r4, r0, there
  blt r4, r0, away
  jr r2 ; no right to run
there: st r3, r0, 0 ; no right to write
away: ld r5, r2, 1
done
boot
run 4
events 0
partitions
words 31 1
`, `> run 4
  epoch 4
> events 0
  at 0:65 trap 3
  at 1:0 warm
  at 1:63 trap 4
  at 2:0 warm
  at 2:66 trap 1
  at 2:66 halt 1
> partitions
  partition 0 a halted restarts 2 trap 1 pc 4095 outs 0
> words 31 1
  31: 3
`},
		{"Which core steps when is not seen: core 1 waits for the lock that core 0 has, and its counter does not tell", `config
memory 10
major 142
kernel 2 8
channel queuing 1 2
partition one entry 0 action halt restarts 0 inputs 0 outputs 3
  region 0 1 0 rwx
  port 0 source
partition two entry 0 action halt restarts 0 inputs 0 outputs 3
  region 0 1 1 rwx
  port 0 dest
core
  window 0 60 82
core
  window 1 60 82
end
program 0
  cyc r4
  li r3, 1
  hyp 1
  hyp 0
  jmp -4
done
program 1
  li r2, 9
  hyp 2
  cyc r5
  hyp 0
  jmp -4
done
boot
step 0 4
step 1 4
step 0 3
step 1 5
run 1
seen 1
solo 1 1
`, `> step 0 4
  core 0 run
  core 0 run
  core 0 run
  core 0 call
> step 1 4
  core 1 run
  core 1 run
  core 1 call
  core 1 call
> step 0 3
  core 0 call
  core 0 call
  core 0 call
> step 1 5
  core 1 call
  core 1 blocked
  core 1 blocked
  core 1 blocked
  core 1 blocked
> run 1
  epoch 1
> seen 1
  at 0:14 pc 0 li r2, 9 r2=9
  at 0:39 pc 1 hyp 2 r1=6
  at 0:41 pc 2 cyc r5 r1=6 r5=39
  at 0:66 pc 3 hyp 0 r5=39
> solo 1 1
  same 4 4
`},
		{"What devices tell and hear, frame by frame", `config
memory 6
major 232
kernel 2 4
partition a entry 0 action halt restarts 0 inputs 2 outputs 1
  region 0 1 0 rwx
core
  window 0 150 82
end
program 0
  li r1, 1
  hyp 4 ; input 1
  mov r1, r2
  hyp 5 ; output
  hyp 5 ; full
  hyp 0
  jmp -6
done
feed 0 1 5 6
boot
run 2
seen 0
outs 0
`, `> run 2
  epoch 2
> seen 0
  at 0:14 pc 0 li r1, 1 r1=1
  at 0:39 pc 1 hyp 4 r1=7
  at 0:41 pc 2 mov r1, r2
  at 0:66 pc 3 hyp 5
  at 0:97 pc 4 hyp 5 r1=5
  at 0:122 pc 5 hyp 0
  at 1:14 pc 6 jmp -6
  at 1:22 pc 0 li r1, 1 r1=1
  at 1:47 pc 1 hyp 4 r2=6
  at 1:49 pc 2 mov r1, r2 r1=6 r2=6
  at 1:74 pc 3 hyp 5
  at 1:99 pc 4 hyp 5 r1=5
  at 1:124 pc 5 hyp 0
> outs 0
  at 0 word 0
  at 1 word 6
`},
		{"An image: what was kept goes on; what was seen stays seen", `config
memory 6
major 182
kernel 2 4
partition a entry 0 action halt restarts 0 inputs 0 outputs 1
  region 0 1 0 rwx
core
  window 0 100 82
end
program 0
  addi r1, r1, 1
  hyp 5
  hyp 0
  jmp -3
done
boot
step 0 3
cores
save
run 2
outs 0
load
cores
audit
run 1
outs 0
`, `> step 0 3
  core 0 run
  core 0 run
  core 0 call
> cores
  core 0 epoch 0 window 0 used 39 call partition 0
> save
> run 2
  epoch 2
> outs 0
  at 0 word 1
  at 1 word 1
> load
> cores
  core 0 epoch 0 window 0 used 39 call partition 0
> audit
  fine
> run 1
  epoch 1
> outs 0
  at 0 word 1
`},
		{"The chapter's own", `config
memory 16
major 400
kernel 8 4
partition a entry 0 action halt restarts 0 inputs 1 outputs 1
  region 0 1 2 rwx
core
  window 0 300 100
end
program 0
  hyp 4
  mov r1, r2
  hyp 5
  hyp 7
done
feed 0 0 77
boot
step 0 5
round 40
seen 0
outs 0
events 0
`, `> step 0 5
  core 0 run
  core 0 call
  core 0 call
  core 0 call
  core 0 call
> round 40
  epoch 10
> seen 0
  at 0:37 pc 0 hyp 4 r2=77
  at 0:39 pc 1 mov r1, r2 r1=77 r2=77
  at 0:64 pc 2 hyp 5
  at 0:89 pc 3 hyp 7
> outs 0
  at 0 word 77
> events 0
  at 0:89 stop
`},
	}
}
