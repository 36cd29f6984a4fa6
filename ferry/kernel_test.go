package ferry

import (
	"reflect"
	"slices"
	"testing"

	"ferry/api"
	"ferry/cpu"
)

// family gives a kernel of 16 blocks of core and 40 of swap; its process 1 has one block and loops.
func family(t *testing.T) *Kernel {
	t.Helper()
	k, e := New(api.Config{Core: 16, Swap: 40, Program: []int{api.Jump, 0}})
	if e != api.OK {
		t.Fatalf("New: %d", e)
	}
	return k
}

// add lays a process more into a kernel: one of so many blocks that exits at once, with its pid as the status.
func add(t *testing.T, k *Kernel, pid, parent, blocks int) *process {
	t.Helper()
	exits := []cpu.Word{api.Set, 5, api.Trap, api.Exit, 0, cpu.Word(pid)}
	p := &process{parent: parent, cpu: cpu.State{Image: imageOf(exits, blocks)}, fds: slices.Repeat([]int{noFile}, api.MaxFds)}
	if !k.admit(p) || p.pid != pid {
		t.Fatalf("P6: %d blocks on the swap: the process is %d, want %d", blocks, p.pid, pid)
	}
	return p
}

func parents(k *Kernel) map[int]int {
	m := map[int]int{}
	for _, p := range k.procs {
		m[p.pid] = p.parent
	}
	return m
}

func exit(t *testing.T, k *Kernel, pid int) {
	t.Helper()
	l, e := k.Pick(pid, 9)
	if e != api.OK || !slices.Equal(l, []api.Event{{Pid: pid, Call: api.Exit, Result: pid}}) {
		t.Fatalf("P7: process %d: %v, %d", pid, l, e)
	}
}

func TestNewTakesRoom(t *testing.T) {
	k, _ := New(api.Config{Core: 17, Swap: 5, Program: make([]int, 9), Files: [][]int{{1, 2}, {}, {65535}}})
	r := rig{t, k}
	r.lies(1, 0, -1)
	r.free(runs{{From: 0, Blocks: 17}}, runs{{From: 2, Blocks: 3}})
}

func TestPickBringsIn(t *testing.T) {
	k := family(t)
	for range 2 {
		k.Pick(1, 1)
		r := rig{t, k}
		r.lies(1, 0, 0)
		r.free(runs{{From: 1, Blocks: 15}}, runs{{From: 1, Blocks: 39}})
	}
	for _, steps := range []int{0, 1001} {
		k := family(t)
		k.Pick(1, steps)
		rig{t, k}.lies(1, 0, -1)
	}
}

func TestEndGivesRoomBack(t *testing.T) {
	for why, program := range map[string][]int{"Exit": {api.Trap, api.Exit}, "Stop": {api.Stop}} {
		k, _ := New(api.Config{Core: 16, Swap: 5, Program: program})
		k.Pick(1, 9)
		t.Log(why)
		rig{t, k}.free(runs{{From: 0, Blocks: 16}}, runs{{From: 0, Blocks: 5}})
	}
	k := family(t)
	add(t, k, 2, 1, 3)
	k.Pick(1, 1)
	exit(t, k, 2)
	rig{t, k}.free(runs{{From: 1, Blocks: 15}}, runs{{From: 1, Blocks: 39}})
}

func TestZombie(t *testing.T) {
	k := family(t)
	add(t, k, 2, 1, 1)
	exit(t, k, 2)
	x, e := k.Look(2)
	if len(x.Image) != 0 || len(x.Fds) != 0 {
		t.Errorf("P7: lists of a Zombie: %v", x)
	}
	x.Image, x.Fds = nil, nil
	if want := (api.Proc{Pid: 2, Parent: 1, State: api.Zombie, Status: 2}); e != api.OK || !reflect.DeepEqual(x, want) {
		t.Errorf("P7: a Zombie: %v, %d", x, e)
	}
	if l := k.Pids(); !slices.Equal(l, []int{1, 2}) {
		t.Errorf("P10: Pids = %v", l)
	}
	for steps, want := range map[int]api.Errno{0: api.ErrSteps, 1: api.ErrState, 1000: api.ErrState, 1001: api.ErrSteps} {
		if l, e := k.Pick(2, steps); len(l) != 0 || e != want {
			t.Errorf("P4: Pick of a Zombie, %d steps: %v, %d", steps, l, e)
		}
	}
}

func TestOrphansGoToTheFirst(t *testing.T) {
	k := family(t)
	add(t, k, 2, 1, 1)
	add(t, k, 3, 2, 1)
	add(t, k, 4, 2, 1)
	add(t, k, 5, 3, 1)
	exit(t, k, 4)
	exit(t, k, 2)
	if m := parents(k); !reflect.DeepEqual(m, map[int]int{1: 0, 2: 1, 3: 1, 4: 1, 5: 3}) {
		t.Errorf("P7: parents: %v", m)
	}
	if x, _ := k.Look(4); x.State != api.Zombie || x.Parent != 1 || x.Status != 4 {
		t.Errorf("P7: a Zombie with another parent: %v", x)
	}
}

func TestTheFirstEnds(t *testing.T) {
	k := family(t)
	add(t, k, 2, 1, 1)
	add(t, k, 3, 1, 1)
	add(t, k, 4, 3, 1)
	add(t, k, 5, 3, 1)
	exit(t, k, 2)
	exit(t, k, 5)
	k.find(1).cpu.Image[0] = api.Stop
	if l, e := k.Pick(1, 1); e != api.OK || !slices.Equal(l, []api.Event{{Pid: 1, Call: api.Exit, Result: api.StatusBad}}) {
		t.Errorf("P7: the first: %v, %d", l, e)
	}
	if m := parents(k); !reflect.DeepEqual(m, map[int]int{3: 0, 4: 3, 5: 3}) {
		t.Errorf("P7: parents: %v", m)
	}
	exit(t, k, 3)
	if m := parents(k); !reflect.DeepEqual(m, map[int]int{4: 0}) {
		t.Errorf("P7: parents, without the first: %v", m)
	}
	exit(t, k, 4)
	if l := k.Pids(); len(l) != 0 {
		t.Errorf("P7: Pids at last: %v", l)
	}
	rig{t, k}.free(runs{{From: 0, Blocks: 16}}, runs{{From: 0, Blocks: 40}})
}
