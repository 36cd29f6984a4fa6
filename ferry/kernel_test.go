package ferry

import (
	"reflect"
	"slices"
	"testing"

	"ferry/api"
	"ferry/blocks"
	"ferry/cpu"
)

// family gives a kernel of 16 blocks of core and 40 of swap; its process 1 has one block and loops.
func family(t *testing.T) *Kernel {
	t.Helper()
	k, e := New(api.Config{Core: 16, Swap: 40, Program: []int{api.Jump, 0}})
	if e != api.OK {
		t.Fatalf("New: %d", e)
	}
	return k
}

// add lays a process more into a kernel: one of so many blocks that exits at once, with its pid as the status.
func add(t *testing.T, k *Kernel, pid, parent, blocks int) *process {
	t.Helper()
	exits := []cpu.Word{api.Set, 5, api.Trap, api.Exit, 0, cpu.Word(pid)}
	p := &process{parent: parent, cpu: cpu.State{Image: imageOf(exits, blocks)}, fds: slices.Repeat([]int{noFile}, api.MaxFds)}
	if !k.admit(p) || p.pid != pid {
		t.Fatalf("P6: %d blocks on the swap: the process is %d, want %d", blocks, p.pid, pid)
	}
	return p
}

func parents(k *Kernel) map[int]int {
	m := map[int]int{}
	for _, p := range k.procs {
		m[p.pid] = p.parent
	}
	return m
}

func exit(t *testing.T, k *Kernel, pid int) {
	t.Helper()
	l, e := k.Pick(pid, 9)
	if e != api.OK || !slices.Equal(l, []api.Event{{Pid: pid, Call: api.Exit, Result: pid}}) {
		t.Fatalf("P7: process %d: %v, %d", pid, l, e)
	}
}

func TestNewTakesRoom(t *testing.T) {
	k, _ := New(api.Config{Core: 17, Swap: 5, Program: make([]int, 9), Files: [][]int{{1, 2}, {}, {65535}}})
	if p := k.find(1); p.swap != 0 || p.core != nowhere {
		t.Errorf("P3: it lies at %d on the swap, at %d in the core", p.swap, p.core)
	}
	if l := k.swap.Runs(); !slices.Equal(l, []blocks.Run[swapPlace]{{From: 2, Blocks: 3}}) {
		t.Errorf("P3: free of the swap: %v", l)
	}
	if l := k.core.Runs(); !slices.Equal(l, []blocks.Run[corePlace]{{From: 0, Blocks: 17}}) {
		t.Errorf("P3: free of the core: %v", l)
	}
}

func TestPickBringsIn(t *testing.T) {
	k := family(t)
	for range 2 {
		k.Pick(1, 1)
		if p := k.find(1); p.core != 0 || !slices.Equal(k.core.Runs(), []blocks.Run[corePlace]{{From: 1, Blocks: 15}}) {
			t.Errorf("P4: it lies at %d in the core, free: %v", p.core, k.core.Runs())
		}
	}
	for _, steps := range []int{0, 1001} {
		k := family(t)
		if k.Pick(1, steps); k.find(1).core != nowhere {
			t.Errorf("P1: Pick(1, %d) brought it in", steps)
		}
	}
}

func TestEndGivesRoomBack(t *testing.T) {
	for why, program := range map[string][]int{"Exit": {api.Trap, api.Exit}, "Stop": {api.Stop}} {
		k, _ := New(api.Config{Core: 16, Swap: 5, Program: program})
		k.Pick(1, 9)
		if c, s := k.core.Runs(), k.swap.Runs(); !slices.Equal(c, []blocks.Run[corePlace]{{From: 0, Blocks: 16}}) || !slices.Equal(s, []blocks.Run[swapPlace]{{From: 0, Blocks: 5}}) {
			t.Errorf("P7: %s: free: %v, %v", why, c, s)
		}
	}
	k := family(t)
	add(t, k, 2, 1, 3)
	k.Pick(1, 1)
	exit(t, k, 2)
	if c, s := k.core.Runs(), k.swap.Runs(); !slices.Equal(c, []blocks.Run[corePlace]{{From: 1, Blocks: 15}}) || !slices.Equal(s, []blocks.Run[swapPlace]{{From: 1, Blocks: 39}}) {
		t.Errorf("P7: a child: free: %v, %v", c, s)
	}
}

func TestZombie(t *testing.T) {
	k := family(t)
	add(t, k, 2, 1, 1)
	exit(t, k, 2)
	x, e := k.Look(2)
	if len(x.Image) != 0 || len(x.Fds) != 0 {
		t.Errorf("P7: lists of a Zombie: %v", x)
	}
	x.Image, x.Fds = nil, nil
	if want := (api.Proc{Pid: 2, Parent: 1, State: api.Zombie, Status: 2}); e != api.OK || !reflect.DeepEqual(x, want) {
		t.Errorf("P7: a Zombie: %v, %d", x, e)
	}
	if l := k.Pids(); !slices.Equal(l, []int{1, 2}) {
		t.Errorf("P10: Pids = %v", l)
	}
	for steps, want := range map[int]api.Errno{0: api.ErrSteps, 1: api.ErrState, 1000: api.ErrState, 1001: api.ErrSteps} {
		if l, e := k.Pick(2, steps); len(l) != 0 || e != want {
			t.Errorf("P4: Pick of a Zombie, %d steps: %v, %d", steps, l, e)
		}
	}
}

func TestOrphansGoToTheFirst(t *testing.T) {
	k := family(t)
	add(t, k, 2, 1, 1)
	add(t, k, 3, 2, 1)
	add(t, k, 4, 2, 1)
	add(t, k, 5, 3, 1)
	exit(t, k, 4)
	exit(t, k, 2)
	if m := parents(k); !reflect.DeepEqual(m, map[int]int{1: 0, 2: 1, 3: 1, 4: 1, 5: 3}) {
		t.Errorf("P7: parents: %v", m)
	}
	if x, _ := k.Look(4); x.State != api.Zombie || x.Parent != 1 || x.Status != 4 {
		t.Errorf("P7: a Zombie with another parent: %v", x)
	}
}

func TestTheFirstEnds(t *testing.T) {
	k := family(t)
	add(t, k, 2, 1, 1)
	add(t, k, 3, 1, 1)
	add(t, k, 4, 3, 1)
	add(t, k, 5, 3, 1)
	exit(t, k, 2)
	exit(t, k, 5)
	k.find(1).cpu.Image[0] = api.Stop
	if l, e := k.Pick(1, 1); e != api.OK || !slices.Equal(l, []api.Event{{Pid: 1, Call: api.Exit, Result: api.StatusBad}}) {
		t.Errorf("P7: the first: %v, %d", l, e)
	}
	if m := parents(k); !reflect.DeepEqual(m, map[int]int{3: 0, 4: 3, 5: 3}) {
		t.Errorf("P7: parents: %v", m)
	}
	exit(t, k, 3)
	if m := parents(k); !reflect.DeepEqual(m, map[int]int{4: 0}) {
		t.Errorf("P7: parents, without the first: %v", m)
	}
	exit(t, k, 4)
	if l := k.Pids(); len(l) != 0 {
		t.Errorf("P7: Pids at last: %v", l)
	}
	if c, s := k.core.Runs(), k.swap.Runs(); !slices.Equal(c, []blocks.Run[corePlace]{{From: 0, Blocks: 16}}) || !slices.Equal(s, []blocks.Run[swapPlace]{{From: 0, Blocks: 40}}) {
		t.Errorf("P7: free at last: %v, %v", c, s)
	}
}

// TestBringInTakesOthersOut: the least pid first, and no more than must be.
func TestBringInTakesOthersOut(t *testing.T) {
	k := family(t)
	for _, c := range []struct{ pid, blocks int }{{2, 5}, {3, 4}, {4, 6}, {5, 7}, {6, 16}} {
		add(t, k, c.pid, 1, c.blocks)
	}
	for _, c := range []struct {
		pid   int
		cores []corePlace
		free  []blocks.Run[corePlace]
	}{
		{4, []corePlace{-1, -1, -1, 0, -1, -1}, []blocks.Run[corePlace]{{From: 6, Blocks: 10}}},
		{2, []corePlace{-1, 6, -1, 0, -1, -1}, []blocks.Run[corePlace]{{From: 11, Blocks: 5}}},
		{3, []corePlace{-1, 6, 11, 0, -1, -1}, []blocks.Run[corePlace]{{From: 15, Blocks: 1}}},
		{3, []corePlace{-1, 6, 11, 0, -1, -1}, []blocks.Run[corePlace]{{From: 15, Blocks: 1}}},
		{1, []corePlace{15, 6, 11, 0, -1, -1}, nil},
		{5, []corePlace{-1, -1, -1, 0, 6, -1}, []blocks.Run[corePlace]{{From: 13, Blocks: 3}}},
		{6, []corePlace{-1, -1, -1, -1, -1, 0}, nil},
		{1, []corePlace{0, -1, -1, -1, -1, -1}, []blocks.Run[corePlace]{{From: 1, Blocks: 15}}},
	} {
		k.bringIn(k.find(c.pid))
		var cores []corePlace
		for _, p := range k.procs {
			cores = append(cores, p.core)
		}
		if !slices.Equal(cores, c.cores) || !slices.Equal(k.core.Runs(), c.free) {
			t.Errorf("P9: bring in %d: %v, free %v; want %v, %v", c.pid, cores, k.core.Runs(), c.cores, c.free)
		}
	}
}
