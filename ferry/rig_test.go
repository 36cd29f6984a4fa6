package ferry

import (
	"reflect"
	"slices"
	"testing"

	"ferry/api"
	"ferry/cpu"
)

// rig is a machine whose processes make the calls that a test lays into them.
type rig struct {
	*testing.T
	k *Kernel
}

// Where rig.call lays the call and its arguments; from data on the image is the test's own.
const (
	argsAt = 2
	dataAt = 8
)

// start gives a rig whose process 1 has an image of some blocks: in word i stands 1000 + i.
func start(t *testing.T, core, swap, n int, files ...[]int) rig {
	t.Helper()
	program := make([]int, n*api.Block)
	for i := range program {
		program[i] = 1000 + i
	}
	k, e := New(api.Config{Core: core, Swap: swap, Program: program, Files: files})
	if e != api.OK {
		t.Fatalf("P3: New: %d", e)
	}
	return rig{t, k}
}

// told is what comes of a call.
type told struct {
	result, wrong int
	blocked       bool
}

func ok(n int) told     { return told{result: n} }
func bad(what int) told { return told{wrong: what} }
func stuck() told       { return told{blocked: true} }

// call lets a process make a call by Pick, and asks what comes of it.
func (r rig) call(want told, pid, call int, args ...int) {
	r.Helper()
	s := &r.k.find(pid).cpu
	s.Image[0], s.Image[1] = api.Trap, cpu.Word(call)
	for i, n := range args {
		s.Image[argsAt+i] = cpu.Word(n)
	}
	s.A, s.B, s.P = argsAt, 77, 0
	r.picks(want, pid, call)
}

// again lets a process that stopped at a call make it anew.
func (r rig) again(want told, pid, call int) {
	r.Helper()
	r.picks(want, pid, call)
}

func (r rig) picks(want told, pid, call int) {
	r.Helper()
	before, _ := r.k.Look(pid)
	events, e := r.k.Pick(pid, 1)
	var expected []api.Event
	if !want.blocked {
		expected = []api.Event{{Pid: pid, Call: call, Result: want.result, Wrong: want.wrong}}
	}
	if e != api.OK || !slices.Equal(events, expected) {
		r.Fatalf("P6: call %d of process %d: %v, %d; want %v", call, pid, events, e, expected)
	}
	x, _ := r.k.Look(pid)
	if want.blocked {
		before.State = api.Blocked
		if !reflect.DeepEqual(x, before) {
			r.Errorf("P4: Blocked at call %d: %v, ahead of it %v", call, x, before)
		}
		return
	}
	if call != api.Exit && (x.State != api.Ready || x.A != want.result || x.B != want.wrong) {
		r.Errorf("P6: behind call %d: %v", call, x)
	}
	if want.wrong != 0 {
		before.A, before.B, before.P = 0, want.wrong, 2
		if !reflect.DeepEqual(x, before) {
			r.Errorf("P6: call %d went wrong, and changed more than A, B and P: %v, ahead of it %v", call, x, before)
		}
	}
}

// exits lets a process end.
func (r rig) exits(pid, status int) {
	r.Helper()
	r.call(ok(status), pid, api.Exit, status)
}

func (r rig) is(pid int, want api.State) {
	r.Helper()
	x, e := r.k.Look(pid)
	if e != api.OK || x.State != want {
		r.Errorf("P8: process %d: %d, %d; want the state %d", pid, x.State, e, want)
	}
	if want == api.Ready {
		return
	}
	if l, e := r.k.Pick(pid, 1); len(l) != 0 || e != api.ErrState {
		r.Errorf("P4: Pick of process %d, which is not Ready: %v, %d", pid, l, e)
	}
}

// has asks for words of an image from a place on.
func (r rig) has(pid, at int, want ...int) {
	r.Helper()
	x, _ := r.k.Look(pid)
	if len(x.Image) < at+len(want) || !slices.Equal(x.Image[at:at+len(want)], want) {
		r.Errorf("process %d: %v; want %v from %d on", pid, x.Image, want, at)
	}
}

func (r rig) fds(pid int, want ...int) {
	r.Helper()
	if x, _ := r.k.Look(pid); !slices.Equal(x.Fds, want) {
		r.Errorf("P6: descriptors of process %d: %v, want %v", pid, x.Fds, want)
	}
}

func (r rig) pids(want ...int) {
	r.Helper()
	if l := r.k.Pids(); !slices.Equal(l, want) {
		r.Errorf("P10: Pids = %v, want %v", l, want)
	}
}

// files asks for a name, how often it is open and how many words, of each file.
func (r rig) files(want ...[3]int) {
	r.Helper()
	var got [][3]int
	for _, f := range r.k.Files() {
		got = append(got, [3]int{f.Name, f.Opens, len(f.Words)})
	}
	if !slices.Equal(got, want) {
		r.Errorf("P10: Files = %v, want %v", got, want)
	}
}

// lies asks where a process lies; core -1: it is not there.
func (r rig) lies(pid, swap, core int) {
	r.Helper()
	x, _ := r.k.Look(pid)
	want := api.Place{Swap: swap, Core: core, Blocks: len(x.Image) / api.Block}
	if w, e := r.k.Where(pid); w != want || e != api.OK {
		r.Errorf("P9: process %d lies at %v, %d; want %v", pid, w, e, want)
	}
}

type runs = []api.Run

// free asks what is free of the core, and of the swap.
func (r rig) free(core, swap runs) {
	r.Helper()
	if c, s := r.k.Free(); !slices.Equal(c, core) || !slices.Equal(s, swap) {
		r.Errorf("P10: free: %v, %v; want %v, %v", c, s, core, swap)
	}
}

// goes brings a process in or takes it out.
func (r rig) goes(how func(int) api.Errno, pid int) {
	r.Helper()
	if e := how(pid); e != api.OK {
		r.Errorf("P9: In or Out of process %d: %d", pid, e)
	}
}
