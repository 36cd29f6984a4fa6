package ferry

import (
	"math/rand"
	"reflect"
	"slices"
	"testing"

	"ferry/api"
)

// family4 gives a rig of process 1 and three children of it; each has two blocks.
func family4(t *testing.T, files ...[]int) rig {
	t.Helper()
	r := start(t, 16, 40, 2, files...)
	for pid := 2; pid <= 4; pid++ {
		r.call(ok(pid), 1, api.Fork)
	}
	return r
}

// TestNoDescriptor: every call that asks for one tells BadFd of one that is none, and of a number that is none's.
func TestNoDescriptor(t *testing.T) {
	r := start(t, 16, 40, 2, []int{5})
	r.call(ok(0), 1, api.Open, 0, 0)
	r.call(ok(1), 1, api.Open, 0, 0)
	r.call(ok(0), 1, api.Close, 0)
	for _, fd := range []int{0, 2, 5, 6, 7, 20, 256 + 1, 65535} {
		r.call(bad(api.BadFd), 1, api.Read, fd, dataAt, 1)
		r.call(bad(api.BadFd), 1, api.Read, fd, dataAt, 0)
		r.call(bad(api.BadFd), 1, api.Write, fd, dataAt, 1)
		r.call(bad(api.BadFd), 1, api.Write, fd, dataAt, 0)
		r.call(bad(api.BadFd), 1, api.Close, fd)
		r.call(bad(api.BadFd), 1, api.Dup, fd)
		r.call(bad(api.BadFd), 1, api.Seek, fd, 0)
		r.call(bad(api.BadFd), 1, api.Seek, fd, 65)
	}
	r.fds(1, -1, 1, -1, -1, -1, -1)
}

func TestMkPipe(t *testing.T) {
	r := start(t, 16, 40, 2, []int{5})
	for fd := range 4 {
		r.call(ok(fd), 1, api.Open, 0, 0)
	}
	r.call(ok(0), 1, api.Close, 3)
	r.call(ok(0), 1, api.Close, 1)
	r.call(ok(1), 1, api.Dup, 0)
	r.call(ok(0), 1, api.MkPipe, dataAt) // the open files 1 and 3, in the descriptors 3 and 4
	r.has(1, dataAt, 3, 4, 1010)
	r.fds(1, 0, 0, 2, 1, 3, -1)
	r.call(bad(api.BadFd), 1, api.Write, 3, dataAt, 1)
	r.call(bad(api.BadFd), 1, api.Read, 4, dataAt, 1)
	for _, place := range []int{0, 64, 65} {
		r.call(bad(api.BadFd), 1, api.Seek, 3, place)
		r.call(bad(api.BadFd), 1, api.Seek, 4, place)
	}
	r.call(bad(api.ManyFds), 1, api.MkPipe, dataAt)
	r.call(ok(0), 1, api.Close, 2)
	r.call(ok(0), 1, api.MkPipe, argsAt) // over its own argument
	r.has(1, argsAt, 2, 5)
	r.fds(1, 0, 0, 2, 1, 3, 4)
	r.call(bad(api.ManyFds), 1, api.MkPipe, dataAt)
}

// TestManyFiles: there are 20 open files at most, whoever has them.
func TestManyFiles(t *testing.T) {
	r := family4(t, []int{5})
	for pid := 1; pid <= 3; pid++ {
		for fd := range 6 {
			r.call(ok(fd), pid, api.Open, 0, 0)
		}
	}
	r.fds(3, 12, 13, 14, 15, 16, 17)
	r.call(bad(api.ManyFds), 3, api.Open, 0, 0)
	r.call(ok(0), 4, api.MkPipe, dataAt) // just two more
	r.fds(4, 18, 19, -1, -1, -1, -1)
	r.call(bad(api.ManyFiles), 4, api.Open, 0, 0)
	r.call(bad(api.ManyFiles), 4, api.Open, 1, 1)
	r.call(bad(api.NoName), 4, api.Open, 1, 0) // told first
	r.call(bad(api.BadArg), 4, api.Open, 16, 0)
	r.call(bad(api.ManyFds), 3, api.Open, 1, 1)
	r.files([3]int{0, 18, 1})
	r.call(ok(2), 4, api.Dup, 0) // no open file more
	r.call(ok(0), 2, api.Close, 3)
	r.call(bad(api.ManyFiles), 4, api.MkPipe, dataAt) // one is not enough
	r.has(4, dataAt, 0, 1)
	r.call(bad(api.ManyFds), 3, api.MkPipe, dataAt)
	r.call(ok(3), 2, api.Open, 1, 7)
	r.fds(2, 6, 7, 8, 9, 10, 11)
	r.files([3]int{0, 17, 1}, [3]int{1, 1, 0})
	r.exits(1, 0)
	r.call(ok(3), 4, api.Open, 0, 0)
	r.fds(4, 18, 19, 18, 0, -1, -1)
}

func TestOpen(t *testing.T) {
	r := start(t, 16, 40, 2, []int{5, 6}, nil)
	for _, name := range []int{16, 17, 65535} {
		r.call(bad(api.BadArg), 1, api.Open, name, 0)
		r.call(bad(api.BadArg), 1, api.Open, name, 1)
	}
	r.call(bad(api.NoName), 1, api.Open, 2, 0)
	r.call(bad(api.NoName), 1, api.Open, 15, 0)
	r.call(ok(0), 1, api.Open, 15, 65535)
	r.call(ok(1), 1, api.Open, 0, 1) // there is one: it is not made anew
	r.call(ok(2), 1, api.Open, 1, 0)
	r.call(ok(3), 1, api.Open, 15, 0)
	r.files([3]int{0, 1, 2}, [3]int{1, 1, 0}, [3]int{15, 2, 0})
	r.fds(1, 0, 1, 2, 3, -1, -1)
	r.call(ok(2), 1, api.Read, 1, dataAt, 8)
	r.has(1, dataAt, 5, 6, 1010)
	r.call(ok(4), 1, api.Open, 0, 0)
	r.call(ok(1), 1, api.Read, 4, dataAt, 1) // from the place 0 on
	r.has(1, dataAt, 5)
}

func TestDupAndClose(t *testing.T) {
	r := start(t, 16, 40, 2, []int{5, 6, 7})
	r.call(ok(0), 1, api.Open, 0, 0)
	for fd := 1; fd < 6; fd++ {
		r.call(ok(fd), 1, api.Dup, fd-1)
	}
	r.call(bad(api.ManyFds), 1, api.Dup, 0)
	r.call(bad(api.BadFd), 1, api.Dup, 6) // told first
	r.fds(1, 0, 0, 0, 0, 0, 0)
	r.files([3]int{0, 1, 3})
	r.call(ok(1), 1, api.Read, 2, dataAt, 1)
	r.call(ok(1), 1, api.Read, 5, dataAt, 1) // one place for all
	r.has(1, dataAt, 6)
	r.call(ok(0), 1, api.Seek, 4, 0)
	r.call(ok(3), 1, api.Read, 0, dataAt, 3)
	for _, fd := range []int{0, 5, 2, 1, 3} {
		r.call(ok(0), 1, api.Close, fd)
		r.call(bad(api.BadFd), 1, api.Close, fd)
		r.files([3]int{0, 1, 3})
	}
	r.call(ok(0), 1, api.Dup, 4)
	r.call(ok(0), 1, api.Close, 4)
	r.files([3]int{0, 1, 3})
	r.call(ok(0), 1, api.Close, 0)
	r.files([3]int{0, 0, 3})
	r.fds(1, -1, -1, -1, -1, -1, -1)
}

func TestReadAndWriteFiles(t *testing.T) {
	r := start(t, 16, 40, 2, []int{5, 6, 7})
	r.call(ok(0), 1, api.Open, 0, 0)
	r.call(ok(0), 1, api.Read, 0, 65535, 0)
	r.call(ok(2), 1, api.Read, 0, dataAt, 2)
	r.has(1, dataAt, 5, 6, 1010)
	r.call(ok(1), 1, api.Read, 0, 14, 2)
	r.has(1, 14, 7, 1015)
	r.call(ok(0), 1, api.Read, 0, dataAt, 8)
	r.call(ok(0), 1, api.Write, 0, 65535, 0)
	r.call(ok(3), 1, api.Write, 0, 9, 3)
	r.call(ok(0), 1, api.Seek, 0, 10)
	r.call(ok(16), 1, api.Write, 0, 0, 16)
	want := []int{5, 6, 7, 6, 1010, 1011, 0, 0, 0, 0, api.Trap, api.Write, 0, 0, 16, 1005, 1006, 1007, 5, 6, 1010, 1011, 1012, 1013, 7, 1015}
	if f := r.k.Files(); !reflect.DeepEqual(f, []api.File{{Name: 0, Opens: 1, Words: want}}) {
		t.Errorf("P6: behind Write: %v, want %v", f, want)
	}
	r.call(ok(0), 1, api.Seek, 0, 64)
	r.call(ok(0), 1, api.Write, 0, dataAt, 0)
	r.call(bad(api.TooBig), 1, api.Write, 0, dataAt, 1)
	for _, place := range []int{65, 66, 65535} {
		r.call(bad(api.BadArg), 1, api.Seek, 0, place)
	}
	r.call(ok(0), 1, api.Seek, 0, 63)
	r.call(bad(api.TooBig), 1, api.Write, 0, dataAt, 2)
	r.call(ok(1), 1, api.Write, 0, dataAt, 1)
	r.files([3]int{0, 1, 64})
}

// TestReadOverItsArguments: they are as they were ahead of the call.
func TestReadOverItsArguments(t *testing.T) {
	r := start(t, 16, 40, 2, []int{9, 9, 9, 9})
	r.call(ok(0), 1, api.Open, 0, 0)
	r.call(ok(4), 1, api.Read, 0, argsAt-1, 4)
	r.has(1, 0, api.Trap, 9, 9, 9, 9, 1005)
}

func TestNoSpace(t *testing.T) {
	full := make([]int, 64)
	r := start(t, 16, 40, 2, full, full, full, full, full[:50])
	r.call(ok(0), 1, api.Open, 9, 1)
	r.call(bad(api.NoSpace), 1, api.Write, 0, 0, 9)
	r.call(ok(8), 1, api.Write, 0, 0, 8)
	r.call(bad(api.NoSpace), 1, api.Write, 0, 0, 1)
	r.call(ok(0), 1, api.Write, 0, 0, 0)
	r.call(ok(1), 1, api.Open, 3, 0)
	r.call(ok(0), 1, api.Unlink, 3)
	r.call(bad(api.NoSpace), 1, api.Write, 0, 0, 1) // it is open yet
	r.call(ok(0), 1, api.Close, 1)
	r.call(ok(1), 1, api.Write, 0, 0, 1)
	r.files([3]int{0, 0, 64}, [3]int{1, 0, 64}, [3]int{2, 0, 64}, [3]int{4, 0, 50}, [3]int{9, 1, 9})
}

func TestUnlink(t *testing.T) {
	r := start(t, 16, 40, 2, []int{0}, []int{1, 1}, []int{2, 2, 2})
	for _, name := range []int{16, 17, 65535} {
		r.call(bad(api.BadArg), 1, api.Unlink, name)
	}
	r.call(bad(api.NoName), 1, api.Unlink, 3)
	r.call(bad(api.NoName), 1, api.Unlink, 15)
	r.call(ok(0), 1, api.Open, 2, 0)
	r.call(ok(1), 1, api.Open, 0, 0)
	r.call(ok(0), 1, api.Unlink, 2)
	r.call(ok(0), 1, api.Unlink, 1) // nobody has it open: it is no more
	r.call(ok(0), 1, api.Unlink, 0)
	r.call(bad(api.NoName), 1, api.Unlink, 2)
	r.call(bad(api.NoName), 1, api.Open, 2, 0)
	r.files([3]int{-1, 1, 3}, [3]int{-1, 1, 1})
	r.call(ok(2), 1, api.Open, 2, 1)
	r.files([3]int{2, 1, 0}, [3]int{-1, 1, 3}, [3]int{-1, 1, 1})
	r.call(ok(1), 1, api.Write, 0, 5, 1) // the old one is a file yet
	r.call(ok(2), 1, api.Read, 0, dataAt, 5)
	r.has(1, dataAt, 2, 2, 1010)
	r.call(ok(0), 1, api.Unlink, 2)
	r.files([3]int{-1, 1, 3}, [3]int{-1, 1, 1}, [3]int{-1, 1, 0})
	r.call(ok(0), 1, api.Close, 1)
	r.files([3]int{-1, 1, 3}, [3]int{-1, 1, 0})
}

// TestReaderWaits: Blocked, Ready and Blocked again by what others do.
func TestReaderWaits(t *testing.T) {
	r := start(t, 16, 40, 2)
	r.call(ok(0), 1, api.MkPipe, dataAt)
	for pid := 2; pid <= 4; pid++ {
		r.call(ok(pid), 1, api.Fork)
	}
	r.call(ok(0), 1, api.Read, 0, 65535, 0)
	r.call(stuck(), 1, api.Read, 0, 12, 2)
	r.call(stuck(), 2, api.Read, 0, 12, 1)
	r.is(1, api.Blocked)
	r.is(2, api.Blocked)
	r.call(ok(0), 3, api.Write, 1, dataAt, 0)
	r.is(1, api.Blocked)
	r.call(ok(1), 3, api.Write, 1, 15, 1)
	r.is(1, api.Ready)
	r.is(2, api.Ready)
	r.again(ok(1), 2, api.Read)
	r.has(2, 12, 1015)
	r.is(1, api.Blocked)
	r.call(ok(3), 4, api.Write, 1, 13, 3)
	r.again(ok(2), 1, api.Read)
	r.has(1, 12, 1013, 1014, 1014, 1015)
	r.call(ok(1), 1, api.Read, 0, 12, 2)
	r.has(1, 12, 1015)
	r.call(stuck(), 1, api.Read, 0, 12, 2)
	for pid := 2; pid <= 4; pid++ {
		r.is(1, api.Blocked) // its own writing end is open
		r.exits(pid, 0)
	}
	r.is(1, api.Blocked)
}

func TestNobodyWrites(t *testing.T) {
	r := start(t, 16, 40, 2)
	r.call(ok(0), 1, api.MkPipe, dataAt)
	r.call(ok(2), 1, api.Fork)
	r.call(ok(2), 2, api.Dup, 1)
	r.call(ok(0), 1, api.Close, 1)
	r.call(stuck(), 1, api.Read, 0, dataAt, 2)
	r.call(ok(0), 2, api.Close, 1)
	r.is(1, api.Blocked) // it is the same open file yet, by 2
	r.call(ok(0), 2, api.Close, 2)
	r.again(ok(0), 1, api.Read)
	r.call(ok(0), 1, api.Read, 0, dataAt, 2)
}

func TestWriterWaits(t *testing.T) {
	r := start(t, 16, 40, 2)
	r.call(ok(0), 1, api.MkPipe, dataAt)
	for pid := 2; pid <= 4; pid++ {
		r.call(ok(pid), 1, api.Fork)
	}
	r.call(ok(7), 1, api.Write, 1, 0, 7)
	r.call(ok(9), 1, api.Write, 1, 0, 16)
	r.call(ok(0), 1, api.Write, 1, 65535, 0)
	r.call(stuck(), 1, api.Write, 1, 10, 5)
	r.call(ok(0), 2, api.Close, 0)
	r.call(stuck(), 2, api.Write, 1, 10, 1)
	r.call(ok(0), 3, api.Read, 0, dataAt, 0)
	r.is(1, api.Blocked)
	r.call(ok(2), 3, api.Read, 0, dataAt, 2)
	r.is(1, api.Ready)
	r.is(2, api.Ready)
	r.again(ok(2), 1, api.Write)
	r.is(2, api.Blocked)
	r.call(ok(8), 3, api.Read, 0, dataAt, 8)
	r.call(ok(0), 1, api.Close, 0)
	r.call(ok(0), 3, api.Close, 0)
	r.call(ok(8), 3, api.Write, 1, 0, 8)
	r.call(stuck(), 1, api.Write, 1, 10, 1)
	r.is(2, api.Blocked)
	r.exits(4, 0) // the last that could read
	r.again(bad(api.Broken), 1, api.Write)
	r.again(bad(api.Broken), 2, api.Write)
	r.call(bad(api.Broken), 3, api.Write, 1, 10, 1)
	r.call(bad(api.Broken), 3, api.Write, 1, 10, 0)
	r.call(bad(api.Fault), 3, api.Write, 1, 10, 7)
}

// TestReadyAheadOfACall: a process that has not come to a call yet is not Blocked at it.
func TestReadyAheadOfACall(t *testing.T) {
	k, _ := New(api.Config{Core: 16, Swap: 40, Program: []int{api.Set, 8, api.Trap, api.MkPipe, api.Set, 10, api.Trap, api.Read, 14, 0, 0, 13, 1}})
	r := rig{t, k}
	k.Pick(1, 3)
	r.is(1, api.Ready)
	if l, e := k.Pick(1, 1000); len(l) != 0 || e != api.OK {
		t.Errorf("P4: %v, %d", l, e)
	}
	r.is(1, api.Blocked)
	if x, _ := k.Look(1); x.A != 10 || x.B != 0 || x.P != 6 || x.Image[13] != 0 {
		t.Errorf("P4: Blocked: %v", x)
	}
}

// TestBlockedCounts: the instruction at which it was Blocked is one of the steps, when it is done anew.
func TestBlockedCounts(t *testing.T) {
	k, _ := New(api.Config{Core: 16, Swap: 40, Program: []int{api.Trap, api.Fork, api.Zero, 10, api.Set, 14, api.Trap, api.Wait, api.Trap, api.Pid, api.Set, 15, api.Trap, api.Exit, 13, 6}})
	r := rig{t, k}
	k.Pick(1, 9)
	r.is(1, api.Blocked)
	k.Pick(2, 9)
	if l, e := k.Pick(1, 1); e != api.OK || !slices.Equal(l, []api.Event{{Pid: 1, Call: api.Wait, Result: 2}}) {
		t.Errorf("P4: one step: %v, %d", l, e)
	}
	if x, _ := k.Look(1); x.P != 8 || x.Image[13] != 6 {
		t.Errorf("P6: behind Wait: %v", x)
	}
}

// TestPipeBringsAll: what is written into a pipe is read from it, all of it, in its order, and nothing else.
func TestPipeBringsAll(t *testing.T) {
	source := rand.New(rand.NewSource(5))
	r := start(t, 16, 40, 6)
	r.call(ok(0), 1, api.MkPipe, dataAt)
	r.call(ok(2), 1, api.Fork)
	var written, read []int
	for range 2000 {
		n := source.Intn(20)
		space, there := 16-(len(written)-len(read)), len(written)-len(read)
		if source.Intn(2) == 0 && (n == 0 || space > 0) {
			at := 8 + source.Intn(20)
			r.k.find(1).cpu.Image[at] += 7 // other words each time
			r.call(ok(min(n, space)), 1, api.Write, 1, at, n)
			x, _ := r.k.Look(1)
			written = append(written, x.Image[at:at+min(n, space)]...)
		} else if n == 0 || there > 0 {
			r.call(ok(min(n, there)), 2, api.Read, 0, 10, n)
			x, _ := r.k.Look(2)
			read = append(read, x.Image[10:10+min(n, there)]...)
		}
	}
	if len(read) < 1000 || !slices.Equal(read, written[:len(read)]) {
		t.Errorf("P11: %d words written, %d read: %v, %v", len(written), len(read), written, read)
	}
}
