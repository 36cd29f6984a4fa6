package ferry_test

import (
	"math"
	"math/rand"
	"reflect"
	"runtime"
	"slices"
	"testing"
	"time"

	"ferry/api"
	"ferry/ferry"
)

// machine gives a small one of a program.
func machine(t *testing.T, program ...int) *ferry.Kernel {
	t.Helper()
	k, e := ferry.New(api.Config{Core: 16, Swap: 16, Program: program})
	if k == nil || e != api.OK {
		t.Fatalf("New = %v, %d", k, e)
	}
	return k
}

// files gives files of so many words each.
func files(sizes ...int) [][]int {
	var l [][]int
	for _, n := range sizes {
		l = append(l, make([]int, n))
	}
	return l
}

func TestNewRefuses(t *testing.T) {
	good := func() api.Config { return api.Config{Core: 16, Swap: 16, Program: []int{1}} }
	for why, spoil := range map[string]func(c *api.Config){
		"core 15":                    func(c *api.Config) { c.Core = 15 },
		"core 65":                    func(c *api.Config) { c.Core = 65 },
		"core 0":                     func(c *api.Config) { c.Core = 0 },
		"core -16":                   func(c *api.Config) { c.Core = -16 },
		"the greatest core":          func(c *api.Config) { c.Core = math.MaxInt },
		"swap 0":                     func(c *api.Config) { c.Swap = 0 },
		"swap -1":                    func(c *api.Config) { c.Swap = -1 },
		"swap 257":                   func(c *api.Config) { c.Swap = 257 },
		"the least swap":             func(c *api.Config) { c.Swap = math.MinInt },
		"no program":                 func(c *api.Config) { c.Program = nil },
		"an empty program":           func(c *api.Config) { c.Program = []int{} },
		"129 words":                  func(c *api.Config) { c.Program, c.Swap = make([]int, 129), 256 },
		"a program with -1":          func(c *api.Config) { c.Program = []int{1, -1} },
		"a program with 65536":       func(c *api.Config) { c.Program = []int{65536, 1} },
		"a program with MaxInt":      func(c *api.Config) { c.Program = []int{math.MaxInt} },
		"a program with MinInt":      func(c *api.Config) { c.Program = []int{math.MinInt} },
		"17 files":                   func(c *api.Config) { c.Files = make([][]int, 17) },
		"a file of 65 words":         func(c *api.Config) { c.Files = files(1, 65) },
		"a file with -1":             func(c *api.Config) { c.Files = [][]int{{1}, {0, -1}} },
		"a file with 65536":          func(c *api.Config) { c.Files = [][]int{{65536}} },
		"41 blocks":                  func(c *api.Config) { c.Files = files(64, 64, 64, 64, 64, 1) },
		"41 blocks, a part in each":  func(c *api.Config) { c.Files = files(17, 17, 17, 17, 17, 17, 17, 17, 17, 17, 17, 17, 17, 1, 1) },
		"2 blocks on a swap of 1":    func(c *api.Config) { c.Program, c.Swap = make([]int, 9), 1 },
		"16 blocks on a swap of 15":  func(c *api.Config) { c.Program, c.Swap = make([]int, 121), 15 },
		"a bad core, a bad program":  func(c *api.Config) { c.Core, c.Program = 1, nil },
		"a good program, a bad file": func(c *api.Config) { c.Files = [][]int{nil, nil, {-5}} },
	} {
		c := good()
		spoil(&c)
		if k, e := ferry.New(c); k != nil || e != api.ErrConfig {
			t.Errorf("P3: %s: New = %v, %d", why, k, e)
		}
	}
	if k, e := ferry.New(good()); k == nil || e != api.OK {
		t.Errorf("P3: unspoiled: New = %v, %d", k, e)
	}
}

func TestNewTakes(t *testing.T) {
	for why, c := range map[string]api.Config{
		"the least":                     {Core: 16, Swap: 1, Program: []int{0}},
		"one block, full":               {Core: 16, Swap: 1, Program: make([]int, 8)},
		"the greatest":                  {Core: 64, Swap: 256, Program: slices.Repeat([]int{65535}, 128)},
		"16 blocks on a swap of 16":     {Core: 16, Swap: 16, Program: make([]int, 121)},
		"16 files":                      {Core: 16, Swap: 1, Program: []int{1}, Files: files(1, 1, 1, 1, 1, 1, 1, 1, 1, 1, 1, 1, 1, 1, 1, 1)},
		"16 empty files":                {Core: 16, Swap: 1, Program: []int{1}, Files: make([][]int, 16)},
		"40 blocks":                     {Core: 16, Swap: 1, Program: []int{1}, Files: files(64, 64, 64, 64, 64)},
		"40 blocks, and empty files":    {Core: 16, Swap: 1, Program: []int{1}, Files: files(64, 64, 64, 64, 57, 0, 0)},
		"the greatest words of a file":  {Core: 16, Swap: 1, Program: []int{1}, Files: [][]int{{65535, 0}}},
		"no files, a list all the same": {Core: 16, Swap: 1, Program: []int{1}, Files: [][]int{}},
	} {
		if k, e := ferry.New(c); k == nil || e != api.OK {
			t.Errorf("P3: %s: New = %v, %d", why, k, e)
		}
	}
}

func TestFirstProcess(t *testing.T) {
	for _, c := range []struct{ words, image int }{{1, 8}, {7, 8}, {8, 8}, {9, 16}, {120, 120}, {121, 128}, {128, 128}} {
		image := make([]int, c.image)
		for i := range c.words {
			image[i] = 65535 - i
		}
		k := machine(t, image[:c.words]...)
		want := api.Proc{Pid: 1, Image: image, Fds: []int{-1, -1, -1, -1, -1, -1}}
		if x, e := k.Look(1); e != api.OK || !reflect.DeepEqual(x, want) {
			t.Errorf("P3: a program of %d words: %v, %d", c.words, x, e)
		}
		if l := k.Pids(); !slices.Equal(l, []int{1}) {
			t.Errorf("P3: Pids = %v", l)
		}
	}
}

func TestWhatIsHandedInIsNotKept(t *testing.T) {
	room := []int{api.Set, 9, api.Put, 0, api.Jump, 4, 77, 77, 77, 77}
	was := slices.Clone(room)
	c := api.Config{Core: 16, Swap: 1, Program: room[:6], Files: [][]int{{5, 6}}}
	k, _ := ferry.New(c)
	k.Pick(1, 5)
	if !slices.Equal(room, was) || !slices.Equal(c.Files[0], []int{5, 6}) {
		t.Errorf("P2: what was handed in was written into: %v, %v", room, c.Files)
	}
	room[5] = 1
	if x, _ := k.Look(1); !slices.Equal(x.Image, []int{9, 9, 3, 0, 6, 4, 0, 0}) {
		t.Errorf("P2: what was handed in was kept: %v", x.Image)
	}
}

func TestWhatComesOutIsNew(t *testing.T) {
	k := machine(t, api.Trap, api.Pid, api.Trap, api.Pid, api.Jump, 0)
	spoil := func(l []int) {
		for i := range l[:cap(l)] {
			l[:cap(l)][i] = 4242
		}
	}
	want := api.Proc{Pid: 1, Image: []int{11, 12, 11, 12, 6, 0, 0, 0}, Fds: []int{-1, -1, -1, -1, -1, -1}}
	x, _ := k.Look(1)
	spoil(x.Image)
	spoil(x.Fds)
	spoil(k.Pids())
	if y, _ := k.Look(1); !reflect.DeepEqual(y, want) || !slices.Equal(k.Pids(), []int{1}) {
		t.Errorf("P2: what was told was written into: %v, %v", y, k.Pids())
	}
	first, _ := k.Pick(1, 1)
	for i := range first[:cap(first)] {
		first[:cap(first)][i] = api.Event{Pid: 4242}
	}
	if l, _ := k.Pick(1, 1); !slices.Equal(l, []api.Event{{Pid: 1, Call: api.Pid, Result: 1}}) || first[0].Pid != 4242 {
		t.Errorf("P2: lists of events share memory: %v, %v", first, l)
	}
}

func TestPickRefuses(t *testing.T) {
	k := machine(t, api.Jump, 0)
	before, _ := k.Look(1)
	for _, c := range []struct {
		pid, steps int
		e          api.Errno
	}{
		{0, 1, api.ErrPid}, {2, 1, api.ErrPid}, {-1, 1, api.ErrPid}, {math.MaxInt, 1, api.ErrPid}, {math.MinInt, 1, api.ErrPid}, {65537, 1, api.ErrPid},
		{2, 0, api.ErrPid}, {0, 1001, api.ErrPid},
		{1, 0, api.ErrSteps}, {1, -1, api.ErrSteps}, {1, 1001, api.ErrSteps}, {1, math.MaxInt, api.ErrSteps}, {1, math.MinInt, api.ErrSteps},
	} {
		if l, e := k.Pick(c.pid, c.steps); len(l) != 0 || e != c.e {
			t.Errorf("P4: Pick(%d, %d) = %v, %d; want %d", c.pid, c.steps, l, e, c.e)
		}
	}
	if x, _ := k.Look(1); !reflect.DeepEqual(x, before) {
		t.Errorf("P1: an error changed something: %v", x)
	}
}

func TestPickCountsSteps(t *testing.T) {
	for _, steps := range []int{1, 2, 3, 999, 1000} {
		k := machine(t, api.Add, 6, api.Jump, 0, 0, 0, 1)
		l, e := k.Pick(1, steps)
		if x, _ := k.Look(1); len(l) != 0 || e != api.OK || x.A != (steps+1)/2 || x.P != steps%2*2 {
			t.Errorf("P4: %d steps: %v, %d: %v", steps, l, e, x)
		}
	}
}

func TestPickTellsCallsInOrder(t *testing.T) {
	k := machine(t, api.Trap, api.Pid, api.Trap, 99, api.Set, 9, api.Trap, api.Exit, 0, 321)
	l, e := k.Pick(1, 1000)
	want := []api.Event{{Pid: 1, Call: api.Pid, Result: 1}, {Pid: 1, Call: 99, Wrong: api.BadCall}, {Pid: 1, Call: api.Exit, Result: 321}}
	if e != api.OK || !slices.Equal(l, want) {
		t.Errorf("P4: %v, %d; want %v", l, e, want)
	}
	k = machine(t, api.Trap, api.Pid, api.Jump, 0)
	if l, _ := k.Pick(1, 1000); len(l) != 500 {
		t.Errorf("P4: %d events of 500 calls", len(l))
	}
}

func TestInstructionsThatEnd(t *testing.T) {
	bad := []api.Event{{Pid: 1, Call: api.Exit, Result: api.StatusBad}}
	for why, c := range map[string]struct {
		program []int
		steps   int // at which it ends
	}{
		"Stop":             {[]int{api.Stop, 0}, 1},
		"12":               {[]int{12, 0}, 1},
		"65535":            {[]int{65535, 0}, 1},
		"Get beyond":       {[]int{api.Get, 8}, 1},
		"Put beyond":       {[]int{api.Put, 8}, 1},
		"Add beyond":       {[]int{api.Add, 8}, 1},
		"Sub beyond":       {[]int{api.Sub, 65535}, 1},
		"Far beyond":       {[]int{api.Set, 8, api.Far, 0}, 2},
		"Lay beyond":       {[]int{api.Set, 8, api.Turn, 0, api.Lay, 0}, 3},
		"P beyond":         {[]int{api.Jump, 8}, 2},
		"P far beyond":     {[]int{api.Jump, 65535}, 2},
		"half of it":       {[]int{api.Jump, 7, 0, 0, 0, 0, 0, api.Turn}, 2},
		"off the end":      {[]int{8, 0, 8, 0, 8, 0, 8, 0}, 5},
		"its own Stop":     {[]int{api.Set, 0, api.Put, 4, api.Set, 1}, 3},
		"128 of 128 words": {append([]int{api.Get, 128}, make([]int, 126)...), 1},
	} {
		k := machine(t, c.program...)
		if c.steps > 1 {
			if l, e := k.Pick(1, c.steps-1); len(l) != 0 || e != api.OK {
				t.Errorf("P5: %s: too early: %v, %d", why, l, e)
			}
		}
		l, e := k.Pick(1, 9)
		if !slices.Equal(l, bad) || e != api.OK {
			t.Errorf("P5: %s: %v, %d", why, l, e)
		}
		gone(t, k)
	}
}

// gone asks that process 1 is no more.
func gone(t *testing.T, k *ferry.Kernel) {
	t.Helper()
	x, e := k.Look(1)
	if l := k.Pids(); len(l) != 0 || e != api.ErrPid || !reflect.DeepEqual(x, api.Proc{}) {
		t.Errorf("P7: it is there yet: %v, %v, %d", l, x, e)
	}
	if l, e := k.Pick(1, 1); len(l) != 0 || e != api.ErrPid {
		t.Errorf("P7: it goes on: %v, %d", l, e)
	}
}

func TestLastWordOfTheGreatestImage(t *testing.T) {
	program := make([]int, 128)
	copy(program, []int{api.Get, 127, api.Jump, 126})
	program[126], program[127] = api.Add, 127
	k := machine(t, program...)
	l, e := k.Pick(1, 3)
	if x, _ := k.Look(1); len(l) != 0 || e != api.OK || x.A != 254 || x.P != 128 {
		t.Errorf("P5: %v, %d: %v", l, e, x)
	}
}

func TestExit(t *testing.T) {
	for _, status := range []int{0, 5, 65535} {
		k := machine(t, api.Set, 7, api.Trap, api.Exit, 0, 0, 0, status)
		if l, e := k.Pick(1, 1000); e != api.OK || !slices.Equal(l, []api.Event{{Pid: 1, Call: api.Exit, Result: status}}) {
			t.Errorf("P6: Exit %d: %v, %d", status, l, e)
		}
		gone(t, k)
	}
}

func TestExitOfNoArgument(t *testing.T) {
	for _, at := range []int{8, 9, 65535} {
		k := machine(t, api.Set, at, api.Trap, api.Exit, api.Jump, 4)
		l, e := k.Pick(1, 3)
		x, _ := k.Look(1)
		if e != api.OK || !slices.Equal(l, []api.Event{{Pid: 1, Call: api.Exit, Wrong: api.Fault}}) {
			t.Errorf("P6: Exit at %d: %v, %d", at, l, e)
		}
		if x.State != api.Ready || x.A != 0 || x.B != api.Fault || x.P != 4 || !slices.Equal(x.Image, []int{1, at, 11, 1, 6, 4, 0, 0}) {
			t.Errorf("P6: Exit at %d: %v", at, x)
		}
	}
}

func TestPidDoesNotLookAtA(t *testing.T) {
	k := machine(t, api.Set, 3, api.Turn, 0, api.Set, 65535, api.Trap, api.Pid)
	l, e := k.Pick(1, 4)
	x, _ := k.Look(1)
	if e != api.OK || !slices.Equal(l, []api.Event{{Pid: 1, Call: api.Pid, Result: 1}}) || x.A != 1 || x.B != 0 || x.P != 8 {
		t.Errorf("P6: %v, %d: %v", l, e, x)
	}
}

func TestNoCall(t *testing.T) {
	for _, n := range []int{0, 15, 16, 255, 257, 268, 32768, 65535} {
		k := machine(t, api.Set, 65535, api.Trap, n, api.Trap, api.Pid)
		l, e := k.Pick(1, 2)
		x, _ := k.Look(1)
		if e != api.OK || !slices.Equal(l, []api.Event{{Pid: 1, Call: n, Wrong: api.BadCall}}) || x.A != 0 || x.B != api.BadCall || x.P != 4 {
			t.Errorf("P6: the call %d: %v, %d: %v", n, l, e, x)
		}
		k.Pick(1, 1)
		if x, _ := k.Look(1); x.A != 1 || x.B != 0 {
			t.Errorf("P6: a good call behind it: %v", x)
		}
	}
}

func TestFirstExample(t *testing.T) {
	k := machine(t, 1, 5, 3, 9, 11, 12, 11, 1, 0, 0)
	l, e := k.Pick(1, 3)
	want := api.Proc{Pid: 1, A: 1, P: 6, Image: []int{1, 5, 3, 9, 11, 12, 11, 1, 0, 5, 0, 0, 0, 0, 0, 0}, Fds: []int{-1, -1, -1, -1, -1, -1}}
	if x, _ := k.Look(1); e != api.OK || !slices.Equal(l, []api.Event{{Pid: 1, Call: api.Pid, Result: 1}}) || !reflect.DeepEqual(x, want) {
		t.Errorf("Pick(1, 3) = %v, %d: %v", l, e, x)
	}
	if l, e := k.Pick(1, 9); e != api.OK || !slices.Equal(l, []api.Event{{Pid: 1, Call: api.Exit, Result: 5}}) {
		t.Errorf("Pick(1, 9) = %v, %d", l, e)
	}
	gone(t, k)
}

func TestSecondExample(t *testing.T) {
	program := append([]int{api.Trap, api.Fork}, make([]int, 14)...)
	for swap, want := range map[int]api.Event{3: {Pid: 1, Call: api.Fork, Wrong: api.NoRoom}, 4: {Pid: 1, Call: api.Fork, Result: 2}} {
		k, _ := ferry.New(api.Config{Core: 16, Swap: swap, Program: program})
		if l, e := k.Pick(1, 1); e != api.OK || !slices.Equal(l, []api.Event{want}) {
			t.Errorf("P6: Fork on a swap of %d: %v, %d; want %v", swap, l, e, want)
		}
		if l := k.Pids(); len(l) != swap-2 {
			t.Errorf("P6: a swap of %d: Pids = %v", swap, l)
		}
		w, e := k.Where(2)
		if swap == 3 && e != api.ErrPid || swap == 4 && (e != api.OK || w != api.Place{Swap: 2, Core: -1, Blocks: 2}) {
			t.Errorf("P10: a swap of %d: the child lies at %v, %d", swap, w, e)
		}
	}
}

// TestThirdExample: a reader is Blocked, as the writing end is its own; after a Write by its child it is Ready.
func TestThirdExample(t *testing.T) {
	k := machine(t,
		api.Set, 20, api.Trap, api.MkPipe, api.Trap, api.Fork, api.Zero, 14,
		api.Set, 21, api.Trap, api.Read, api.Jump, 12, // the parent
		api.Set, 24, api.Trap, api.Write, api.Jump, 18, // the child
		30, 0, 28, 4, 1, 20, 2)
	state := func(want api.State) {
		t.Helper()
		if x, e := k.Look(1); e != api.OK || x.State != want {
			t.Errorf("P8: the reader: %v, %d; want the state %d", x, e, want)
		}
	}
	pick := func(pid, steps int, want ...api.Event) {
		t.Helper()
		if l, e := k.Pick(pid, steps); e != api.OK || !slices.Equal(l, want) {
			t.Errorf("P6: Pick(%d, %d) = %v, %d; want %v", pid, steps, l, e, want)
		}
	}
	pick(1, 5, api.Event{Pid: 1, Call: api.MkPipe}, api.Event{Pid: 1, Call: api.Fork, Result: 2})
	state(api.Ready)
	pick(1, 1000)
	state(api.Blocked)
	for steps, want := range map[int]api.Errno{0: api.ErrSteps, 1: api.ErrState, 1000: api.ErrState, 1001: api.ErrSteps} {
		if l, e := k.Pick(1, steps); len(l) != 0 || e != want {
			t.Errorf("P4: Pick of one that is Blocked, %d steps: %v, %d", steps, l, e)
		}
	}
	pick(2, 3, api.Event{Pid: 2, Call: api.Write, Result: 2})
	state(api.Ready)
	pick(1, 1, api.Event{Pid: 1, Call: api.Read, Result: 2})
	if x, _ := k.Look(1); !slices.Equal(x.Image[27:], []int{0, 30, 0, 0, 1}) || x.A != 2 || x.P != 12 {
		t.Errorf("P6: behind Read: %v", x)
	}
}

// TestAllPids: 60000 processes come, one after another, and no more.
func TestAllPids(t *testing.T) {
	k := machine(t, api.Trap, api.Fork, api.Zero, 10, api.Set, 14, api.Trap, api.Wait, api.Jump, 0, api.Set, 14, api.Trap, api.Exit, 15)
	for pid := 2; pid <= api.MaxPids; pid++ {
		if l, e := k.Pick(1, 4); e != api.OK || !slices.Equal(l, []api.Event{{Pid: 1, Call: api.Fork, Result: pid}}) {
			t.Fatalf("P6: the process %d: %v, %d", pid, l, e)
		}
		k.Pick(pid, 3)
		if l, e := k.Pick(1, 2); e != api.OK || !slices.Equal(l, []api.Event{{Pid: 1, Call: api.Wait, Result: pid}}) {
			t.Fatalf("P6: Wait for %d: %v, %d", pid, l, e)
		}
	}
	if l, e := k.Pick(1, 1); e != api.OK || !slices.Equal(l, []api.Event{{Pid: 1, Call: api.Fork, Wrong: api.NoProc}}) {
		t.Errorf("P6: one more: %v, %d", l, e)
	}
}

// TestFilesAreNew: what Files gives out is new memory, also a list within the list.
func TestFilesAreNew(t *testing.T) {
	handed := [][]int{{1, 2}, {}, {65535}}
	k, _ := ferry.New(api.Config{Core: 16, Swap: 1, Program: []int{1}, Files: handed})
	handed[0][1], handed[1] = 9, []int{9}
	for range 2 {
		l := k.Files()
		if len(l) != 3 || len(l[1].Words) != 0 {
			t.Fatalf("P10: Files = %v", l)
		}
		l[1].Words = nil
		if want := []api.File{{Name: 0, Words: []int{1, 2}}, {Name: 1}, {Name: 2, Words: []int{65535}}}; !reflect.DeepEqual(l, want) {
			t.Errorf("P10: Files = %v, want %v", l, want)
		}
		for _, f := range l {
			for i := range f.Words[:cap(f.Words)] {
				f.Words[:cap(f.Words)][i] = 4242
			}
		}
		for i := range l[:cap(l)] {
			l[:cap(l)][i] = api.File{Name: 4242}
		}
	}
	if l := machine(t, 1).Files(); len(l) != 0 {
		t.Errorf("P10: no files: %v", l)
	}
}

func TestLookRefuses(t *testing.T) {
	k := machine(t, 1, 2)
	for _, pid := range []int{0, 2, -1, 65537, math.MaxInt, math.MinInt} {
		if x, e := k.Look(pid); e != api.ErrPid || !reflect.DeepEqual(x, api.Proc{}) {
			t.Errorf("P10: Look(%d) = %v, %d", pid, x, e)
		}
	}
}

func TestKernelsKnowNothingOfOneAnother(t *testing.T) {
	program := []int{api.Add, 6, api.Put, 7, api.Jump, 0, 1, 0}
	one, other := machine(t, program...), machine(t, program...)
	one.Pick(1, 30)
	if x, _ := other.Look(1); x.A != 0 || x.P != 0 || !slices.Equal(x.Image, program) {
		t.Errorf("P2: the other one: %v", x)
	}
	other.Pick(1, 3)
	if x, _ := one.Look(1); x.A != 10 || x.Image[7] != 10 {
		t.Errorf("P2: the first one: %v", x)
	}
}

// anyProgram gives words of which many are instructions that hold.
func anyProgram(r *rand.Rand) []int {
	program := make([]int, 1+r.Intn(128))
	for i := range program {
		switch r.Intn(4) {
		case 0:
			program[i] = 1 + r.Intn(11)
		case 1, 2:
			program[i] = r.Intn(len(program) + 1)
		default:
			program[i] = []int{0, 1, 8, 12, 15, 65534, 65535}[r.Intn(7)]
		}
	}
	return program
}

// TestPiecesAreTheWhole: a process does in one Pick what it does in many, and every Pick ends.
func TestPiecesAreTheWhole(t *testing.T) {
	r := rand.New(rand.NewSource(3))
	for range 400 {
		program, steps := anyProgram(r), 1+r.Intn(120)
		whole, pieces := machine(t, program...), machine(t, program...)
		want, e := whole.Pick(1, steps)
		if e != api.OK {
			t.Fatalf("P4: %v: %d", program, e)
		}
		var got []api.Event
		for range steps {
			l, _ := pieces.Pick(1, 1)
			got = append(got, l...)
		}
		x, _ := whole.Look(1)
		y, _ := pieces.Look(1)
		if !slices.Equal(got, want) || !reflect.DeepEqual(x, y) {
			t.Fatalf("P4: %v, %d steps: %v, %v; in pieces %v, %v", program, steps, want, x, got, y)
		}
	}
}

func TestGoroutinesHaveEnded(t *testing.T) {
	before := runtime.NumGoroutine()
	for _, program := range [][]int{{api.Jump, 0}, {api.Stop, 0}, {api.Trap, api.Exit}, {api.Trap, api.Pid, api.Jump, 0}, {api.Trap, 99, api.Jump, 0}, {api.Set, 8, api.Trap, api.MkPipe, api.Set, 10, api.Trap, api.Read, 14, 0, 0, 13, 1}} {
		for range 100 {
			machine(t, program...).Pick(1, 7)
		}
	}
	// One that has ended may still be counted for a moment.
	for range 1000 {
		if runtime.NumGoroutine() <= before {
			return
		}
		time.Sleep(time.Millisecond)
	}
	t.Errorf("P1: %d goroutines, %d ahead of it", runtime.NumGoroutine(), before)
}
