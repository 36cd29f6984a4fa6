package ferry

import (
	"math/rand"
	"reflect"
	"slices"
	"testing"

	"ferry/api"
	"ferry/blocks"
)

// anyWords gives n words that make calls over and over, most of them with arguments that may be.
func anyWords(r *rand.Rand, n int) []int {
	words := make([]int, n)
	calls := n / 8
	for i := range calls {
		call, at := 1+r.Intn(14), 4*calls+3*i
		if call == api.Exit || r.Intn(20) == 0 {
			call = r.Intn(17)
		}
		copy(words[4*i:], []int{api.Set, at, api.Trap, call})
		if r.Intn(8) == 0 {
			copy(words[4*i:], []int{api.Zero, 4 * r.Intn(calls)})
		}
		copy(words[at:], anyArgs(r, call, n))
	}
	copy(words[4*calls-2:], []int{api.Jump, 0})
	if r.Intn(8) == 0 {
		words[r.Intn(n)] = r.Intn(65536)
	}
	return words
}

func anyArgs(r *rand.Rand, call, n int) []int {
	fd, address, name := r.Intn(5), n/2+r.Intn(n/2+1), r.Intn(7)
	if r.Intn(10) == 0 {
		name = 15 + r.Intn(3)
	}
	switch call {
	case api.Wait, api.MkPipe:
		return []int{address}
	case api.Grow:
		return []int{n/8 + r.Intn(6) - 2}
	case api.Read, api.Write:
		return []int{fd, r.Intn(n), r.Intn(30)}
	case api.Open:
		return []int{name, r.Intn(2)}
	case api.Exec, api.Unlink:
		return []int{name}
	case api.Seek:
		return []int{fd, r.Intn(70)}
	}
	return []int{fd}
}

func anyMachine(r *rand.Rand) api.Config {
	c := api.Config{Core: 16, Swap: 16 + r.Intn(120), Program: anyWords(r, 64+r.Intn(65))}
	for range r.Intn(6) {
		c.Files = append(c.Files, anyWords(r, 64-r.Intn(2)*r.Intn(32)))
	}
	return c
}

// TestWhateverProcessesDo: machines with any programs hold together while they are brought in and taken out, and the same comes without that, of a greater core, and of single steps.
func TestWhateverProcessesDo(t *testing.T) {
	done := map[[2]int]int{} // how often a call came to its end so
	for seed := range int64(300) {
		r := rand.New(rand.NewSource(seed))
		c := anyMachine(r)
		k, e := New(c)
		if e != api.OK {
			t.Fatalf("P3: %v: %d", c, e)
		}
		wide := c
		wide.Core = 64
		other, _ := New(wide)
		single, _ := New(c)
		still, _ := New(c)
		for range 60 {
			pids := k.Pids()
			if len(pids) == 0 {
				break
			}
			pid, steps := pids[r.Intn(len(pids))], 1+r.Intn(40)
			before := looks(k)
			goAbout(k, rand.New(rand.NewSource(r.Int63())), pids)
			if !reflect.DeepEqual(looks(k), before) {
				t.Fatalf("P11: seed %d: In and Out changed more than where they lie", seed)
			}
			events, e := k.Pick(pid, steps)
			for _, x := range events {
				done[[2]int{x.Call, x.Wrong}]++
			}
			holds(t, k, c, pid, before)
			for why, o := range map[string]*Kernel{"a greater core": other, "without In and Out": still} {
				if l, f := o.Pick(pid, steps); f != e || !slices.Equal(l, events) {
					t.Fatalf("P11: seed %d: %s: %v, %d; %v, %d", seed, why, l, f, events, e)
				}
			}
			if l := inSteps(single, pid, steps); !slices.Equal(l, events) {
				t.Fatalf("P4: seed %d: in single steps: %v; %v", seed, l, events)
			}
			for why, o := range map[string]*Kernel{"a greater core": other, "single steps": single, "without In and Out": still} {
				if !reflect.DeepEqual(looks(o), looks(k)) || !reflect.DeepEqual(o.Files(), k.Files()) || !slices.Equal(freeSwap(o), freeSwap(k)) {
					t.Fatalf("P11: seed %d: %s: it stands otherwise", seed, why)
				}
			}
			if t.Failed() {
				t.Fatalf("seed %d", seed)
			}
		}
	}
	wants(t, done)
}

// goAbout brings some processes in and takes some out.
func goAbout(k *Kernel, r *rand.Rand, pids []int) {
	for range r.Intn(4) {
		pid := pids[r.Intn(len(pids))]
		if r.Intn(2) == 0 {
			k.In(pid)
		} else {
			k.Out(pid)
		}
	}
}

func freeSwap(k *Kernel) runs {
	_, swap := k.Free()
	return swap
}

// wants asks that each call was made, so that the machines above show something.
func wants(t *testing.T, done map[[2]int]int) {
	t.Helper()
	for call := api.Exit; call <= api.Seek; call++ {
		if done[[2]int{call, 0}] == 0 {
			t.Errorf("the call %d never came to a good end: %v", call, done)
		}
	}
	for what := api.Fault; what <= api.BadArg; what++ {
		if !slices.ContainsFunc(keys(done), func(x [2]int) bool { return x[1] == what }) {
			t.Errorf("no call was ever told %d: %v", what, done)
		}
	}
}

func keys(m map[[2]int]int) (l [][2]int) {
	for x := range m {
		l = append(l, x)
	}
	return l
}

// inSteps does a Pick by Picks of one step each.
func inSteps(k *Kernel, pid, steps int) (events []api.Event) {
	for range steps {
		l, e := k.Pick(pid, 1)
		if e != api.OK {
			break
		}
		events = append(events, l...)
		if p := k.find(pid); p == nil || p.blocked != nil {
			break
		}
	}
	return events
}

func looks(k *Kernel) map[int]api.Proc {
	m := map[int]api.Proc{}
	for _, pid := range k.Pids() {
		m[pid], _ = k.Look(pid)
	}
	return m
}

// holds asks what must hold of a machine behind every Pick.
func holds(t *testing.T, k *Kernel, c api.Config, picked int, before map[int]api.Proc) {
	t.Helper()
	for pid, x := range looks(k) {
		parent := k.find(x.Parent)
		if x.Parent != 0 && (parent == nil || parent.ended) || x.Parent == 0 && x.State == api.Zombie {
			t.Errorf("P7: the parent of %v", x)
		}
		was, there := before[pid]
		if pid == picked || !there {
			continue
		}
		was.Parent, was.State = x.Parent, x.State
		if !reflect.DeepEqual(x, was) {
			t.Errorf("P11: process %d is %v, was %v", pid, x, was)
		}
	}
	if w, e := k.Where(picked); before[picked].State == api.Ready && e == api.OK && w.Core == -1 {
		t.Errorf("P4: process %d went on, and is not in the core", picked)
	}
	if len(k.procs) > api.MaxProcs || !slices.IsSorted(k.Pids()) {
		t.Errorf("P6: Pids = %v", k.Pids())
	}
	eachBlockOnce(t, k, c)
	filesHold(t, k)
}

// eachBlockOnce: each block of the core, and of the swap, is free or one process's.
func eachBlockOnce(t *testing.T, k *Kernel, c api.Config) {
	t.Helper()
	core, swap := make([]int, c.Core), make([]int, c.Swap)
	freeCore, freeSwap := k.Free()
	count(core, freeCore)
	count(swap, freeSwap)
	for pid, x := range looks(k) {
		w, e := k.Where(pid)
		if x.State == api.Zombie {
			if e != api.ErrState || w != (api.Place{}) {
				t.Errorf("P10: a Zombie: Where = %v, %d", w, e)
			}
			continue
		}
		if e != api.OK || w.Blocks*api.Block != len(x.Image) {
			t.Errorf("P10: Where = %v, %d, of %d words", w, e, len(x.Image))
		}
		count(swap, runs{{From: w.Swap, Blocks: w.Blocks}})
		if w.Core != -1 {
			count(core, runs{{From: w.Core, Blocks: w.Blocks}})
		}
	}
	if !slices.Equal(core, slices.Repeat([]int{1}, c.Core)) || !slices.Equal(swap, slices.Repeat([]int{1}, c.Swap)) {
		t.Errorf("P11: how often each block is someone's: %v, %v", core, swap)
	}
}

func count(times []int, l runs) {
	for _, r := range l {
		for i := range r.Blocks {
			times[r.From+i]++
		}
	}
}

func filesHold(t *testing.T, k *Kernel) {
	t.Helper()
	open := map[int]int{}
	for _, p := range k.procs {
		for _, number := range p.fds {
			if number != noFile {
				open[number]++
			}
		}
	}
	if n := k.open.Room(); n != api.MaxOpen-len(open) {
		t.Errorf("P6: room for %d open files, the descriptors are %v", n, open)
	}
	taken, opens := 0, 0
	for _, f := range k.Files() {
		taken += blocks.Of(len(f.Words))
		opens += f.Opens
		if f.Name == -1 && f.Opens == 0 || len(f.Words) > api.MaxFile {
			t.Errorf("a file that may not be: %v", f)
		}
	}
	if taken > api.Disk || opens > len(open) {
		t.Errorf("P6: %d blocks of the disk, %d open files of %d", taken, opens, len(open))
	}
}
