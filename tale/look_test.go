package tale_test

import (
	"testing"
)

// P32.2: what configurations, programs, feeds, boot, save and load tell.
func TestToldAhead(t *testing.T) {
	tells(t, pair+"program 1\nspace 20\ndone\nprogram 0\n\n;\ndone\nfeed 0 3\nfeed 0 0 1 2\nboot\nsave\nload\n", `> config
  cores 2 partitions 2 channels 2
> program 1
  words 20
> program 0
  words 0
> feed 0 3
> feed 0 0 1 2
> boot
> save
> load
`)
}

// P32.2: each kind of step, and cores in each mode that a script brings them to.
func TestToldSteps(t *testing.T) {
	tells(t, pair+`program 0
hyp 6
hyp 0
done
boot
step 0 0
cores
step 0
cores
step 0 4
cores
step 0 6
cores
step 0
cores
step 0
cores
step 0 3
cores
step 1 4
cores
step 1
step 1
cores
step 0
cores
step 1 1
epoch`, `> step 0 0
> cores
  core 0 epoch 0 window 0 used 0 run partition 0
  core 1 epoch 0 window 0 used 0 run partition 1
> step 0
  core 0 run
> cores
  core 0 epoch 0 window 0 used 37 call partition 0
  core 1 epoch 0 window 0 used 0 run partition 1
> step 0 4
  core 0 call
  core 0 call
  core 0 call
  core 0 call
> cores
  core 0 epoch 0 window 0 used 37 run partition 0
  core 1 epoch 0 window 0 used 0 run partition 1
> step 0 6
  core 0 run
  core 0 call
  core 0 call
  core 0 call
  core 0 call
  core 0 switch
> cores
  core 0 epoch 0 window 1 used 0 run partition 0
  core 1 epoch 0 window 0 used 0 run partition 1
> step 0
  core 0 run
> cores
  core 0 epoch 0 window 1 used 23 run partition 0
  core 1 epoch 0 window 0 used 0 run partition 1
> step 0
  core 0 switch
> cores
  core 0 epoch 0 window 0 used 0 arrive partition none
  core 1 epoch 0 window 0 used 0 run partition 1
> step 0 3
  core 0 arrive
  core 0 blocked
  core 0 blocked
> cores
  core 0 epoch 0 window 0 used 0 wait partition none
  core 1 epoch 0 window 0 used 0 run partition 1
> step 1 4
  core 1 run
  core 1 switch
  core 1 arrive
  core 1 leave
> cores
  core 0 epoch 0 window 0 used 0 wait partition none
  core 1 epoch 1 window 0 used 0 run partition 1
> step 1
  core 1 run
> step 1
  core 1 switch
> cores
  core 0 epoch 0 window 0 used 0 wait partition none
  core 1 epoch 1 window 0 used 0 arrive partition none
> step 0
  core 0 leave
> cores
  core 0 epoch 1 window 0 used 0 run partition 0
  core 1 epoch 1 window 0 used 0 arrive partition none
> step 1 1
  core 1 arrive
> epoch
  epoch 1
`)
}

// P32.2: partitions in each state, and all that becomes of them.
func TestToldStates(t *testing.T) {
	tells(t, pair+`program 0
hyp 5
hyp 5
hyp 5
hyp 0
div r1, r0, r0
done
program 1
hyp 7
done
boot
partitions
step 0 20
partitions
step 0
partitions
step 0
partitions
round
partitions
round 10
partitions
events 0
events 1
events 1
outs 0
run 1
partitions
events 0
events 0
outs 0
outs 1`, `> partitions
  partition 0 first ready restarts 0 trap 0 pc 0 outs 0
  partition 1 second ready restarts 0 trap 0 pc 0 outs 0
> step 0 20
  core 0 run
  core 0 call
  core 0 call
  core 0 call
  core 0 call
  core 0 run
  core 0 call
  core 0 call
  core 0 call
  core 0 call
  core 0 run
  core 0 call
  core 0 call
  core 0 call
  core 0 call
  core 0 run
  core 0 call
  core 0 call
  core 0 call
  core 0 call
> partitions
  partition 0 first yielded restarts 0 trap 0 pc 0 outs 2
  partition 1 second ready restarts 0 trap 0 pc 0 outs 0
> step 0
  core 0 switch
> partitions
  partition 0 first ready restarts 0 trap 0 pc 0 outs 2
  partition 1 second ready restarts 0 trap 0 pc 0 outs 0
> step 0
  core 0 run
> partitions
  partition 0 first restart restarts 0 trap 5 pc 4 outs 2
  partition 1 second ready restarts 0 trap 0 pc 0 outs 0
> round
  epoch 0
> partitions
  partition 0 first restart restarts 0 trap 5 pc 4 outs 2
  partition 1 second ready restarts 0 trap 0 pc 0 outs 0
> round 10
  epoch 1
> partitions
  partition 0 first ready restarts 1 trap 5 pc 4 outs 0
  partition 1 second halted restarts 0 trap 0 pc 0 outs 0
> events 0
  at 0:205 trap 5
  at 1:0 warm
> events 1
  at 0:37 stop
> events 1
> outs 0
  at 0 word 0
  at 0 word 0
> run 1
  epoch 2
> partitions
  partition 0 first restart restarts 1 trap 5 pc 4 outs 2
  partition 1 second halted restarts 0 trap 0 pc 0 outs 0
> events 0
  at 1:205 trap 5
> events 0
> outs 0
  at 1 word 0
  at 1 word 0
> outs 1
`)
}

// P32.2: a partition that begins anew cold, and then is halted; a place that is fetched from in vain.
func TestToldCold(t *testing.T) {
	tells(t, pair+`program 1
jmp there
space 15
there: addi r15, r15, -1
st r15, r0, 20
ld r14, r0, 20
jmp 4000
done
boot
run 3
partitions
seen 1
seen 0
events 1
words 36 1
words 20 0
audit
solo 1 3
solo 1 1
solo 1 8
solo 0 0`, `> run 3
  epoch 3
> partitions
  partition 0 first halted restarts 2 trap 2 pc 0 outs 0
  partition 1 second halted restarts 1 trap 1 pc 4019 outs 0
> seen 1
  at 0:14 pc 0 jmp 16
  at 0:28 pc 16 addi r15, r15, -1 r15=4294967295
  at 0:37 pc 17 st r15, r0, 20 r15=4294967295
  at 0:40 pc 18 ld r14, r0, 20 read 20 4294967295 r14=4294967295 r15=4294967295
  at 0:42 pc 19 jmp 4000 r14=4294967295 r15=4294967295
  at 0:58 pc 4019 none trap 1 r14=4294967295 r15=4294967295
  at 1:14 pc 0 jmp 16
  at 1:28 pc 16 addi r15, r15, -1 r15=4294967295
  at 1:37 pc 17 st r15, r0, 20 r15=4294967295
  at 1:40 pc 18 ld r14, r0, 20 read 20 4294967295 r14=4294967295 r15=4294967295
  at 1:42 pc 19 jmp 4000 r14=4294967295 r15=4294967295
  at 1:58 pc 4019 none trap 1 r14=4294967295 r15=4294967295
> seen 0
  at 0:23 pc 0 word 0 trap 2
  at 0:205 pc 0 word 0 trap 2
  at 1:23 pc 0 word 0 trap 2
> events 1
  at 0:58 trap 1
  at 1:0 cold
  at 1:58 trap 1
  at 1:58 halt 1
> words 36 1
  36: 4294967295
> words 20 0
> audit
  fine
> solo 1 3
  same 12 12
> solo 1 1
  same 12 6
> solo 1 8
  same 12 12
> solo 0 0
  same 3 0
`)
}

// P32.1, P32.2: the last image counts, the machine goes on from it, and what was seen stays seen, so that solo may tell otherwise.
func TestToldAgain(t *testing.T) {
	tells(t, small+`program 0
addi r1, r1, 1
st r1, r0, 8
hyp 5
hyp 0
jmp -4
done
boot
save
run 1
solo 0 1
save
run 2
load
epoch
seen 0
outs 0
words 40 1
round 1
cores
load
load
cores
run
seen 0
solo 0 2
solo 0 8
save
load
outs 0
epoch`, `> save
> run 1
  epoch 1
> solo 0 1
  same 4 4
> save
> run 2
  epoch 3
> load
> epoch
  epoch 1
> seen 0
  at 0:14 pc 0 addi r1, r1, 1 r1=1
  at 0:23 pc 1 st r1, r0, 8 r1=1
  at 0:48 pc 2 hyp 5
  at 0:73 pc 3 hyp 0
  at 1:14 pc 4 jmp -4
  at 1:22 pc 0 addi r1, r1, 1 r1=1
  at 1:31 pc 1 st r1, r0, 8 r1=1
  at 1:56 pc 2 hyp 5
  at 1:81 pc 3 hyp 0
  at 2:14 pc 4 jmp -4
  at 2:22 pc 0 addi r1, r1, 1 r1=1
  at 2:31 pc 1 st r1, r0, 8 r1=1
  at 2:56 pc 2 hyp 5
  at 2:81 pc 3 hyp 0
> outs 0
  at 0 word 1
  at 1 word 1
  at 2 word 1
> words 40 1
  40: 1
> round 1
  epoch 1
> cores
  core 0 epoch 1 window 0 used 0 run partition 0
> load
> load
> cores
  core 0 epoch 0 window 0 used 0 wait partition none
> run
  epoch 2
> seen 0
  at 1:14 pc 4 jmp -4
  at 1:22 pc 0 addi r1, r1, 1 r1=1
  at 1:31 pc 1 st r1, r0, 8 r1=1
  at 1:56 pc 2 hyp 5
  at 1:81 pc 3 hyp 0
> solo 0 2
  same 19 9
> solo 0 8
  other at 14
> save
> load
> outs 0
  at 1 word 1
> epoch
  epoch 2
`)
}

// P32.1, P32.2: each feed keeps its own words, for its own partition and frame.
func TestToldFeeds(t *testing.T) {
	tells(t, pair+`feed 0 2 30 31
feed 0 0 10 11
feed 1 1
feed 0 1 20
program 0
hyp 4
li r1, 1
hyp 4
hyp 0
jmp 1
li r1, 0
jmp -6
done
boot
run 3
seen 0`, `> seen 0
  at 0:37 pc 0 hyp 4 r2=10
  at 0:39 pc 1 li r1, 1 r1=1 r2=10
  at 0:64 pc 2 hyp 4 r2=11
  at 0:89 pc 3 hyp 0
  at 0:196 pc 4 jmp 1
  at 0:198 pc 5 li r1, 0
  at 0:200 pc 6 jmp -6
  at 0:231 pc 0 hyp 4 r2=10
  at 0:233 pc 1 li r1, 1 r1=1 r2=10
  at 0:258 pc 2 hyp 4 r2=11
  at 0:283 pc 3 hyp 0
  at 1:14 pc 4 jmp 1
  at 1:16 pc 5 li r1, 0
  at 1:18 pc 6 jmp -6
  at 1:49 pc 0 hyp 4 r2=20
  at 1:51 pc 1 li r1, 1 r1=1 r2=20
  at 1:76 pc 2 hyp 4 r1=7
  at 1:101 pc 3 hyp 0
  at 1:196 pc 4 jmp 1
  at 1:198 pc 5 li r1, 0
  at 1:200 pc 6 jmp -6
  at 1:231 pc 0 hyp 4 r2=20
  at 1:233 pc 1 li r1, 1 r1=1 r2=20
  at 1:258 pc 2 hyp 4 r1=7
  at 1:283 pc 3 hyp 0
  at 2:14 pc 4 jmp 1
  at 2:16 pc 5 li r1, 0
  at 2:18 pc 6 jmp -6
  at 2:49 pc 0 hyp 4 r2=30
  at 2:51 pc 1 li r1, 1 r1=1 r2=30
  at 2:76 pc 2 hyp 4 r2=31
  at 2:101 pc 3 hyp 0
  at 2:196 pc 4 jmp 1
  at 2:198 pc 5 li r1, 0
  at 2:200 pc 6 jmp -6
  at 2:231 pc 0 hyp 4 r2=30
  at 2:233 pc 1 li r1, 1 r1=1 r2=30
  at 2:258 pc 2 hyp 4 r2=31
  at 2:283 pc 3 hyp 0
`)
}
