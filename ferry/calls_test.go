package ferry

import (
	"slices"
	"testing"

	"ferry/api"
	"ferry/cpu"
)

// TestArguments: they stand in the image, to the last one, or it is a Fault.
func TestArguments(t *testing.T) {
	for call, n := range map[int]int{api.Exit: 1, api.Wait: 1, api.Grow: 1, api.MkPipe: 1, api.Read: 3, api.Write: 3, api.Close: 1, api.Dup: 1, api.Open: 2, api.Exec: 1, api.Unlink: 1, api.Seek: 2} {
		for _, at := range []int{16 - n, 17 - n, 15, 16, 17, 65535} {
			r := start(t, 16, 4, 2, []int{5})
			s := &r.k.find(1).cpu
			copy(s.Image, append([]cpu.Word{api.Trap, cpu.Word(call)}, make([]cpu.Word, 14)...))
			s.A = cpu.Word(at)
			l, e := r.k.Pick(1, 1)
			if fault := at+n > 16; e != api.OK || len(l) != 1 || (l[0].Wrong == api.Fault) != fault {
				t.Errorf("P6: call %d, arguments at %d: %v, %d; a Fault: %v", call, at, l, e, fault)
			} else if fault {
				r.files([3]int{0, 0, 1})
				r.has(1, 0, api.Trap, call, 0, 0, 0, 0, 0, 0, 0, 0, 0, 0, 0, 0, 0, 0)
			}
		}
	}
}

// TestNoArguments: a call without any does not look at A.
func TestNoArguments(t *testing.T) {
	r := start(t, 16, 4, 1)
	s := &r.k.find(1).cpu
	copy(s.Image, []cpu.Word{api.Trap, api.Fork, api.Set, 65535, api.Trap, api.Pid})
	s.A = 65535
	if l, e := r.k.Pick(1, 3); e != api.OK || !slices.Equal(l, []api.Event{{Pid: 1, Call: api.Fork, Result: 2}, {Pid: 1, Call: api.Pid, Result: 1}}) {
		t.Errorf("P6: %v, %d", l, e)
	}
}

// TestAddresses: where they are not its own, Fault is told ahead of all else.
func TestAddresses(t *testing.T) {
	r := start(t, 16, 40, 2)
	for _, at := range []int{16, 17, 65535} {
		r.call(bad(api.Fault), 1, api.Wait, at)
	}
	r.call(bad(api.NoChild), 1, api.Wait, 15)
	for _, at := range []int{15, 16, 65535} {
		r.call(bad(api.Fault), 1, api.MkPipe, at)
	}
	for _, call := range []int{api.Read, api.Write} {
		for _, c := range [][2]int{{16, 1}, {15, 2}, {0, 17}, {0, 65535}, {65535, 1}, {65535, 65535}, {1, 65535}, {8, 9}} {
			r.call(bad(api.Fault), 1, call, 0, c[0], c[1])
		}
		for _, c := range [][2]int{{16, 0}, {65535, 0}, {15, 1}, {0, 16}, {8, 8}} {
			r.call(bad(api.BadFd), 1, call, 0, c[0], c[1])
		}
	}
	r.call(ok(0), 1, api.MkPipe, 14)
	r.has(1, 14, 0, 1)
	for range 2 {
		r.call(ok(0), 1, api.MkPipe, 14)
	}
	r.call(bad(api.Fault), 1, api.MkPipe, 15)
	r.call(bad(api.ManyFds), 1, api.MkPipe, 14)
	r.call(bad(api.Fault), 1, api.Read, 0, 16, 1)
	r.call(bad(api.Fault), 1, api.Write, 1, 10, 7)
}

func TestForkGivesTheSame(t *testing.T) {
	r := start(t, 16, 40, 2, []int{5, 6})
	r.call(ok(0), 1, api.Open, 0, 0)
	r.call(ok(0), 1, api.MkPipe, dataAt)
	r.call(ok(2), 1, api.Fork)
	x, _ := r.k.Look(1)
	y, e := r.k.Look(2)
	if e != api.OK || y.Pid != 2 || y.Parent != 1 || y.State != api.Ready || y.A != 0 || y.B != 0 || y.P != 2 || y.Status != 0 {
		t.Errorf("P6: the child: %v, %d", y, e)
	}
	if !slices.Equal(y.Image, x.Image) || !slices.Equal(y.Fds, []int{0, 1, 2, -1, -1, -1}) || x.Parent != 0 || x.P != 2 {
		t.Errorf("P6: the child %v, the parent %v", y, x)
	}
	r.lies(1, 0, 0)
	r.lies(2, 2, -1)
	r.free(runs{{From: 2, Blocks: 14}}, runs{{From: 4, Blocks: 36}})
	r.call(ok(3), 2, api.Fork)
	if z, _ := r.k.Look(3); z.Parent != 2 {
		t.Errorf("P6: the child's child: %v", z)
	}
	r.pids(1, 2, 3)
	r.files([3]int{0, 1, 2})
}

// TestForkSharesNothingElse: what a process does changes no word, no register and no descriptor of another one.
func TestForkSharesNothingElse(t *testing.T) {
	r := start(t, 16, 40, 2, []int{5, 6})
	r.call(ok(0), 1, api.Open, 0, 0)
	r.call(ok(2), 1, api.Fork)
	before, _ := r.k.Look(1)
	r.call(ok(1), 2, api.Open, 0, 0)
	r.call(ok(2), 2, api.Read, 1, dataAt, 2)
	r.call(ok(0), 2, api.Close, 0)
	r.call(ok(0), 2, api.Grow, 1)
	after, _ := r.k.Look(1)
	if !slices.Equal(after.Image, before.Image) || after.A != before.A || after.P != before.P || !slices.Equal(after.Fds, before.Fds) {
		t.Errorf("P11: the parent: %v, ahead of it %v", after, before)
	}
	r.has(1, dataAt, 1008, 1009)
	r.has(2, 0, api.Trap, api.Grow)
	r.call(ok(2), 1, api.Read, 0, dataAt, 8)
	r.has(1, dataAt, 5, 6)
}

func TestForkSharesPlaces(t *testing.T) {
	r := start(t, 16, 40, 2, []int{5, 6, 7, 8})
	r.call(ok(0), 1, api.Open, 0, 0)
	r.call(ok(2), 1, api.Fork)
	r.call(ok(1), 2, api.Read, 0, dataAt, 1)
	r.call(ok(2), 1, api.Read, 0, dataAt, 2)
	r.has(1, dataAt, 6, 7)
	r.exits(2, 0)
	r.files([3]int{0, 1, 4})
	r.call(ok(1), 1, api.Read, 0, dataAt, 8)
	r.has(1, dataAt, 8)
}

func TestForkRefuses(t *testing.T) {
	r := start(t, 16, 12, 1)
	for pid := 2; pid <= 12; pid++ {
		r.call(ok(pid), 1, api.Fork)
	}
	r.call(bad(api.NoProc), 1, api.Fork) // there is no room either
	r.exits(5, 0)
	r.call(bad(api.NoProc), 2, api.Fork) // a Zombie counts
	r.call(ok(5), 1, api.Wait, dataAt-1)
	r.call(ok(13), 2, api.Fork) // no pid comes twice
	r.pids(1, 2, 3, 4, 6, 7, 8, 9, 10, 11, 12, 13)
	r.lies(13, 4, -1)

	r = start(t, 16, 5, 2)
	r.call(ok(2), 1, api.Fork)
	r.call(bad(api.NoRoom), 1, api.Fork)
	r.call(bad(api.NoRoom), 2, api.Fork)
	r.pids(1, 2)
	r.free(runs{{From: 4, Blocks: 12}}, runs{{From: 4, Blocks: 1}})
	r.exits(2, 0)
	r.call(ok(3), 1, api.Fork)
}

// TestForkNeedsRoomInOneRun: as many blocks are free, but not side by side.
func TestForkNeedsRoomInOneRun(t *testing.T) {
	r := start(t, 16, 7, 2)
	r.call(ok(2), 1, api.Fork)
	r.call(ok(3), 1, api.Fork)
	r.call(ok(0), 3, api.Grow, 1)
	r.call(ok(4), 1, api.Fork)
	r.exits(2, 0)
	r.call(ok(5), 3, api.Fork)
	r.exits(3, 0)
	r.lies(1, 0, 0)
	r.lies(4, 4, -1)
	r.lies(5, 2, -1)
	r.call(bad(api.NoRoom), 1, api.Fork)
	r.free(runs{{From: 2, Blocks: 14}}, runs{{From: 3, Blocks: 1}, {From: 6, Blocks: 1}})
	r.call(ok(6), 5, api.Fork)
	r.lies(6, 3, -1)
}

func TestWait(t *testing.T) {
	r := start(t, 16, 40, 2)
	r.call(bad(api.NoChild), 1, api.Wait, dataAt)
	for pid := 2; pid <= 4; pid++ {
		r.call(ok(pid), 1, api.Fork)
	}
	r.call(bad(api.NoChild), 2, api.Wait, dataAt)
	r.call(ok(5), 2, api.Fork)
	r.call(stuck(), 1, api.Wait, dataAt)
	r.is(1, api.Blocked)
	r.exits(4, 65535)
	r.is(1, api.Ready)
	r.exits(3, 7)
	r.again(ok(3), 1, api.Wait)
	r.has(1, dataAt, 7, 1009)
	r.pids(1, 2, 4, 5)
	r.call(ok(4), 1, api.Wait, 15)
	r.has(1, 15, 65535)
	r.call(stuck(), 1, api.Wait, dataAt)
	r.exits(5, 1) // the child of another one
	r.is(1, api.Blocked)
	r.exits(2, 6) // its Zombie is an orphan now
	r.again(ok(2), 1, api.Wait)
	r.has(1, dataAt, 6)
	r.call(ok(5), 1, api.Wait, dataAt)
	r.has(1, dataAt, 1)
	r.pids(1)
	r.call(bad(api.NoChild), 1, api.Wait, dataAt)
}

// TestWaitOverItsArgument: the address is the place of the argument itself.
func TestWaitOverItsArgument(t *testing.T) {
	r := start(t, 16, 4, 1)
	r.call(ok(2), 1, api.Fork)
	r.exits(2, 321)
	r.call(ok(2), 1, api.Wait, argsAt)
	r.has(1, argsAt, 321)
}

// TestOrphansWakeTheFirst: what 1 waits for may come from another one.
func TestOrphansWakeTheFirst(t *testing.T) {
	r := start(t, 16, 40, 2)
	r.call(ok(2), 1, api.Fork)
	r.call(ok(3), 2, api.Fork)
	r.call(ok(4), 2, api.Fork)
	r.exits(4, 44)
	r.call(stuck(), 1, api.Wait, dataAt)
	r.exits(2, 22)
	r.again(ok(2), 1, api.Wait)
	r.call(ok(4), 1, api.Wait, dataAt)
	r.call(stuck(), 1, api.Wait, dataAt)
	r.exits(3, 33)
	r.again(ok(3), 1, api.Wait)
	r.has(1, dataAt, 33)
}

func TestGrow(t *testing.T) {
	for n := 1; n <= 16; n++ {
		r := start(t, 16, 22, 6)
		r.call(ok(0), 1, api.Grow, n)
		x, _ := r.k.Look(1)
		want := make([]int, n*8)
		for i := range min(48, n*8) {
			want[i] = 1000 + i
		}
		copy(want, []int{api.Trap, api.Grow, n})
		if !slices.Equal(x.Image, want) || x.P != 2 {
			t.Errorf("P6: Grow %d: %v", n, x)
		}
		r.lies(1, 6, 0)
	}
}

func TestGrowRefuses(t *testing.T) {
	r := start(t, 16, 16, 6)
	for _, n := range []int{0, 17, 18, 256 + 1, 65535} {
		r.call(bad(api.BadArg), 1, api.Grow, n)
	}
	for n := 11; n <= 16; n++ {
		r.call(bad(api.NoRoom), 1, api.Grow, n)
	}
	r.lies(1, 0, 0)
	r.free(runs{{From: 6, Blocks: 10}}, runs{{From: 6, Blocks: 10}})
	r.call(ok(0), 1, api.Grow, 10)
	r.lies(1, 6, 0)
	r.free(runs{{From: 10, Blocks: 6}}, runs{{From: 0, Blocks: 6}})
	r.call(bad(api.NoRoom), 1, api.Grow, 10)
	r.call(ok(0), 1, api.Grow, 6)
	r.lies(1, 0, 0)
}

// TestGrowForgets: words that were cut off are 0 when it grows again.
func TestGrowForgets(t *testing.T) {
	r := start(t, 16, 16, 3)
	r.call(ok(0), 1, api.Grow, 2)
	r.call(ok(0), 1, api.Grow, 3)
	r.has(1, 15, 1015, 0, 0, 0, 0, 0, 0, 0, 0)
}

// TestGrowBeyondItself: a process that cuts off the instruction at P ends at it.
func TestGrowBeyondItself(t *testing.T) {
	r := start(t, 16, 16, 2)
	s := &r.k.find(1).cpu
	copy(s.Image[8:], []cpu.Word{api.Trap, api.Grow, api.Trap, api.Pid, 1})
	s.A, s.P = 12, 8
	l, e := r.k.Pick(1, 9)
	if want := []api.Event{{Pid: 1, Call: api.Grow}, {Pid: 1, Call: api.Exit, Result: api.StatusBad}}; e != api.OK || !slices.Equal(l, want) {
		t.Errorf("P5: %v, %d; want %v", l, e, want)
	}
}

// TestGrowInTheCore: its room there is given back first, then it is brought in again, and others go out for it.
func TestGrowInTheCore(t *testing.T) {
	r := start(t, 16, 60, 4)
	for pid := 2; pid <= 5; pid++ {
		r.call(ok(pid), 1, api.Fork)
	}
	for pid := 2; pid <= 4; pid++ {
		r.call(ok(pid), pid, api.Pid)
	}
	for pid := 1; pid <= 4; pid++ {
		r.lies(pid, 4*pid-4, 4*pid-4)
	}
	r.call(ok(0), 3, api.Grow, 3) // its own old room is the first that fits
	r.lies(3, 20, 8)
	r.free(runs{{From: 11, Blocks: 1}}, runs{{From: 8, Blocks: 4}, {From: 23, Blocks: 37}})
	r.call(ok(0), 3, api.Grow, 5) // 1 alone is not enough, and 4 may stay
	r.lies(1, 0, -1)
	r.lies(2, 4, -1)
	r.lies(3, 23, 0)
	r.lies(4, 12, 12)
	r.free(runs{{From: 5, Blocks: 7}}, runs{{From: 8, Blocks: 4}, {From: 20, Blocks: 3}, {From: 28, Blocks: 32}})
}

func TestExec(t *testing.T) {
	r := start(t, 16, 40, 2, []int{}, []int{api.Trap, api.Pid, 7, 8, 9, 10, 11, 12, 13})
	r.call(ok(0), 1, api.Open, 1, 0)
	r.call(ok(1), 1, api.Read, 0, dataAt, 1)
	for _, name := range []int{16, 17, 65535} {
		r.call(bad(api.BadArg), 1, api.Exec, name)
	}
	r.call(bad(api.NoName), 1, api.Exec, 2)
	r.call(bad(api.NoName), 1, api.Exec, 15)
	r.call(bad(api.BadArg), 1, api.Exec, 0)
	r.call(ok(0), 1, api.Exec, 1)
	x, _ := r.k.Look(1)
	if x.A != 0 || x.B != 0 || x.P != 0 || !slices.Equal(x.Image, []int{11, 12, 7, 8, 9, 10, 11, 12, 13, 0, 0, 0, 0, 0, 0, 0}) || !slices.Equal(x.Fds, []int{0, -1, -1, -1, -1, -1}) {
		t.Errorf("P6: behind Exec: %v", x)
	}
	r.again(ok(1), 1, api.Pid)
	r.call(ok(8), 1, api.Read, 0, dataAt, 8) // its place stays too
	r.has(1, dataAt, 12, 7, 8, 9, 10, 11, 12, 13)
}

// TestExecIsACopy: what it does to its image is not in the file.
func TestExecIsACopy(t *testing.T) {
	r := start(t, 16, 40, 1, []int{api.Set, 9, api.Put, 1})
	r.call(ok(0), 1, api.Exec, 0)
	if _, e := r.k.Pick(1, 2); e != api.OK {
		t.Fatal(e)
	}
	r.has(1, 0, api.Set, 9, api.Put, 1)
	r.k.find(1).cpu.Image[0] = 4242
	if f := r.k.Files(); !slices.Equal(f[0].Words, []int{api.Set, 9, api.Put, 1}) {
		t.Errorf("P11: the file: %v", f)
	}
}

func TestExecTakesRoom(t *testing.T) {
	full := make([]int, 64)
	r := start(t, 16, 9, 2, full, full[:57], full[:56], full[:1])
	r.call(bad(api.NoRoom), 1, api.Exec, 0)
	r.call(bad(api.NoRoom), 1, api.Exec, 1)
	r.lies(1, 0, 0)
	r.call(ok(0), 1, api.Exec, 2)
	r.lies(1, 2, 0)
	r.free(runs{{From: 7, Blocks: 9}}, runs{{From: 0, Blocks: 2}})
	r.call(ok(0), 1, api.Exec, 3)
	r.lies(1, 0, 0)
	r.free(runs{{From: 1, Blocks: 15}}, runs{{From: 1, Blocks: 8}})
}

// TestExecOfALostName: a file that has no name can't be found, though it is open.
func TestExecOfALostName(t *testing.T) {
	r := start(t, 16, 40, 2, []int{1})
	r.call(ok(0), 1, api.Open, 0, 0)
	r.call(ok(0), 1, api.Unlink, 0)
	r.call(bad(api.NoName), 1, api.Exec, 0)
}

// TestEndCloses: what a process had open is closed, but for what others have too.
func TestEndCloses(t *testing.T) {
	r := start(t, 16, 40, 2, []int{1}, []int{2})
	r.call(ok(0), 1, api.Open, 0, 0)
	r.call(ok(2), 1, api.Fork)
	r.call(ok(1), 2, api.Open, 1, 0)
	r.call(ok(2), 2, api.Dup, 1)
	r.call(ok(0), 2, api.Unlink, 1)
	r.files([3]int{0, 1, 1}, [3]int{-1, 1, 1})
	r.exits(2, 0)
	r.files([3]int{0, 1, 1})
	if n := r.k.open.Room(); n != 19 {
		t.Errorf("P7: room for %d open files", n)
	}
	r.exits(1, 0)
	r.files([3]int{0, 0, 1})
	if n := r.k.open.Room(); n != 20 {
		t.Errorf("P7: room for %d open files", n)
	}
	r.free(runs{{From: 0, Blocks: 16}}, runs{{From: 0, Blocks: 40}})
}

// TestBadEndCloses: so it is with one that did what it may not.
func TestBadEndCloses(t *testing.T) {
	r := start(t, 16, 40, 2)
	r.call(ok(0), 1, api.MkPipe, dataAt)
	r.call(ok(2), 1, api.Fork)
	r.call(ok(0), 1, api.Close, 1)
	r.call(stuck(), 1, api.Read, 0, dataAt, 1)
	r.k.find(2).cpu.P = 65535
	if l, e := r.k.Pick(2, 1); e != api.OK || !slices.Equal(l, []api.Event{{Pid: 2, Call: api.Exit, Result: api.StatusBad}}) {
		t.Errorf("P5: %v, %d", l, e)
	}
	r.again(ok(0), 1, api.Read)
	r.call(ok(2), 1, api.Wait, dataAt)
	r.has(1, dataAt, api.StatusBad)
}
