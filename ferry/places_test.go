package ferry

import (
	"math"
	"math/rand"
	"reflect"
	"slices"
	"testing"

	"ferry/api"
)

func TestInAndOut(t *testing.T) {
	r := start(t, 16, 20, 3)
	r.lies(1, 0, -1)
	r.free(runs{{From: 0, Blocks: 16}}, runs{{From: 3, Blocks: 17}})
	for range 2 {
		r.goes(r.k.In, 1)
		r.lies(1, 0, 0)
		r.free(runs{{From: 3, Blocks: 13}}, runs{{From: 3, Blocks: 17}})
	}
	for range 2 {
		r.goes(r.k.Out, 1)
		r.lies(1, 0, -1)
		r.free(runs{{From: 0, Blocks: 16}}, runs{{From: 3, Blocks: 17}})
	}
}

// TestInTakesOthersOut: the least pid first, and no more than must be.
func TestInTakesOthersOut(t *testing.T) {
	k := family(t)
	for _, c := range []struct{ pid, blocks int }{{2, 5}, {3, 4}, {4, 6}, {5, 7}, {6, 16}} {
		add(t, k, c.pid, 1, c.blocks)
	}
	swaps := []int{0, 1, 6, 10, 16, 23}
	for _, c := range []struct {
		pid   int
		cores []int
		free  runs
	}{
		{4, []int{-1, -1, -1, 0, -1, -1}, runs{{From: 6, Blocks: 10}}},
		{2, []int{-1, 6, -1, 0, -1, -1}, runs{{From: 11, Blocks: 5}}},
		{3, []int{-1, 6, 11, 0, -1, -1}, runs{{From: 15, Blocks: 1}}},
		{3, []int{-1, 6, 11, 0, -1, -1}, runs{{From: 15, Blocks: 1}}},
		{1, []int{15, 6, 11, 0, -1, -1}, nil},
		{5, []int{-1, -1, -1, 0, 6, -1}, runs{{From: 13, Blocks: 3}}},
		{6, []int{-1, -1, -1, -1, -1, 0}, nil},
		{1, []int{0, -1, -1, -1, -1, -1}, runs{{From: 1, Blocks: 15}}},
	} {
		r := rig{t, k}
		r.goes(k.In, c.pid)
		for i, core := range c.cores {
			r.lies(i+1, swaps[i], core)
		}
		r.free(c.free, runs{{From: 39, Blocks: 1}})
	}
}

// TestHolesInTheCore: room is taken in the first run that has it, and two that touch are one.
func TestHolesInTheCore(t *testing.T) {
	k := family(t)
	for pid := 2; pid <= 7; pid++ {
		add(t, k, pid, 1, pid-1)
	}
	r := rig{t, k}
	swap := runs{{From: 22, Blocks: 18}}
	for _, pid := range []int{4, 2, 3, 1, 6} {
		r.goes(k.In, pid)
	}
	r.free(runs{{From: 12, Blocks: 4}}, swap)
	r.goes(k.Out, 2)
	r.goes(k.Out, 1)
	r.free(runs{{From: 3, Blocks: 1}, {From: 6, Blocks: 1}, {From: 12, Blocks: 4}}, swap)
	r.goes(k.In, 5)
	r.lies(5, 7, 12)
	r.goes(k.In, 1)
	r.lies(1, 0, 3)
	r.goes(k.Out, 4)
	r.goes(k.Out, 1)
	r.free(runs{{From: 0, Blocks: 4}, {From: 6, Blocks: 1}}, swap)
	r.goes(k.Out, 3)
	r.free(runs{{From: 0, Blocks: 7}}, swap)
	r.goes(k.In, 7)
	r.lies(7, 16, 0)
	r.free(runs{{From: 6, Blocks: 1}}, swap)
}

func TestPlacesRefuse(t *testing.T) {
	r := start(t, 16, 40, 2)
	r.call(ok(2), 1, api.Fork)
	r.call(ok(3), 1, api.Fork)
	r.exits(2, 0)
	r.exits(3, 7)
	r.call(ok(2), 1, api.Wait, dataAt)
	before := looks(r.k)
	refused := map[int]api.Errno{3: api.ErrState}
	for _, pid := range []int{2, 0, 4, -1, 65537, math.MaxInt, math.MinInt} {
		refused[pid] = api.ErrPid
	}
	for pid, want := range refused {
		if e := r.k.In(pid); e != want {
			t.Errorf("P9: In(%d) = %d, want %d", pid, e, want)
		}
		if e := r.k.Out(pid); e != want {
			t.Errorf("P9: Out(%d) = %d, want %d", pid, e, want)
		}
		if w, e := r.k.Where(pid); w != (api.Place{}) || e != want {
			t.Errorf("P10: Where(%d) = %v, %d; want %d", pid, w, e, want)
		}
	}
	r.lies(1, 0, 0)
	r.free(runs{{From: 2, Blocks: 14}}, runs{{From: 2, Blocks: 38}})
	if !reflect.DeepEqual(looks(r.k), before) {
		t.Errorf("P1: an error changed something: %v, ahead of it %v", looks(r.k), before)
	}
}

// TestZombiesLieNowhere: one that ends gives its room back, in the core and on the swap.
func TestZombiesLieNowhere(t *testing.T) {
	r := start(t, 16, 40, 3)
	r.call(ok(2), 1, api.Fork)
	r.goes(r.k.In, 2)
	r.lies(2, 3, 3)
	r.exits(2, 0)
	r.free(runs{{From: 3, Blocks: 13}}, runs{{From: 3, Blocks: 37}})
	r.goes(r.k.Out, 1)
	r.exits(1, 0)
	r.free(runs{{From: 0, Blocks: 16}}, runs{{From: 0, Blocks: 40}})
}

// TestBlockedGoToAndFro: one that is Blocked stays so wherever it lies, and is Ready by what others do.
func TestBlockedGoToAndFro(t *testing.T) {
	r := start(t, 16, 40, 9)
	r.call(ok(0), 1, api.MkPipe, dataAt)
	r.call(ok(2), 1, api.Fork)
	r.call(stuck(), 1, api.Read, 0, dataAt, 4)
	before, _ := r.k.Look(1)
	for _, how := range []func(int) api.Errno{r.k.Out, r.k.In, r.k.Out} {
		r.goes(how, 1)
		if x, _ := r.k.Look(1); !reflect.DeepEqual(x, before) {
			t.Errorf("P11: Blocked: %v, was %v", x, before)
		}
	}
	r.is(1, api.Blocked)
	r.lies(1, 0, -1) // a Pick that is refused brings nothing in
	r.goes(r.k.In, 1)
	r.call(ok(2), 2, api.Write, 1, dataAt+1, 2)
	r.lies(1, 0, -1)
	r.is(1, api.Ready)
	r.again(ok(2), 1, api.Read)
	r.has(1, dataAt, 1, 1010)
	r.lies(1, 0, 0)
	r.lies(2, 9, -1)
}

// TestOutKeepsWhatItHasDone: others lie, and lay their words, where it lay; it comes back elsewhere.
func TestOutKeepsWhatItHasDone(t *testing.T) {
	r := start(t, 16, 40, 6)
	r.call(ok(2), 1, api.Fork)
	r.call(ok(3), 1, api.Fork)
	r.call(ok(0), 1, api.MkPipe, dataAt)
	before, _ := r.k.Look(1)
	r.goes(r.k.Out, 1)
	r.call(ok(0), 2, api.MkPipe, dataAt+1)
	r.lies(2, 6, 0)
	r.goes(r.k.In, 1)
	r.lies(1, 0, 6)
	if x, _ := r.k.Look(1); !reflect.DeepEqual(x, before) {
		t.Errorf("P11: %v, was %v", x, before)
	}
	r.has(2, dataAt, 1008, 0, 1)
	r.has(3, dataAt, 1008, 1009, 1010)
}

func TestFreeIsNew(t *testing.T) {
	k := family(t)
	for pid := 2; pid <= 5; pid++ {
		add(t, k, pid, 1, 2)
		k.In(pid)
	}
	exit(t, k, 2)
	exit(t, k, 4)
	for range 2 {
		rig{t, k}.free(runs{{From: 0, Blocks: 2}, {From: 4, Blocks: 2}, {From: 8, Blocks: 8}}, runs{{From: 1, Blocks: 2}, {From: 5, Blocks: 2}, {From: 9, Blocks: 31}})
		core, swap := k.Free()
		for _, l := range []runs{core[:cap(core)], swap[:cap(swap)]} {
			for i := range l {
				l[i] = api.Run{From: 4242, Blocks: 4242}
			}
		}
		rig{t, k}.lies(3, 3, 2)
	}
	k.In(1)
	rig{t, k}.lies(1, 0, 0)
}

// blocksOf is a plain picture of core or swap: for each block whose it is; 0: it is free.
type blocksOf []int

func (b blocksOf) fit(n int) int {
	for at := 0; at+n <= len(b); at++ {
		if !slices.ContainsFunc(b[at:at+n], func(pid int) bool { return pid != 0 }) {
			return at
		}
	}
	return -1
}

func (b blocksOf) lay(at, n, pid int) {
	for i := range n {
		b[at+i] = pid
	}
}

func (b blocksOf) wipe(pid int) {
	for i, owner := range b {
		if owner == pid {
			b[i] = 0
		}
	}
}

func (b blocksOf) least() int {
	least := math.MaxInt
	for _, pid := range b {
		if pid != 0 {
			least = min(least, pid)
		}
	}
	return least
}

func (b blocksOf) free() (l runs) {
	for i, pid := range b {
		if pid == 0 && i > 0 && b[i-1] == 0 {
			l[len(l)-1].Blocks++
		} else if pid == 0 {
			l = append(l, api.Run{From: i, Blocks: 1})
		}
	}
	return l
}

// picture is where all lie, as the document says it.
type picture struct {
	core, swap blocksOf
	size       map[int]int // blocks of each process
}

func (m picture) in(pid int) {
	if slices.Contains(m.core, pid) {
		return
	}
	for m.core.fit(m.size[pid]) < 0 {
		m.core.wipe(m.core.least())
	}
	m.core.lay(m.core.fit(m.size[pid]), m.size[pid], pid)
}

// grow tells what comes of Grow.
func (m picture) grow(pid, n int) told {
	m.in(pid)
	at := m.swap.fit(n)
	if at < 0 {
		return bad(api.NoRoom)
	}
	m.swap.wipe(pid)
	m.swap.lay(at, n, pid)
	m.core.wipe(pid)
	m.size[pid] = n
	m.in(pid)
	return ok(0)
}

// fork tells what comes of a Fork of 1 whose child is the process pid.
func (m picture) fork(pid int) told {
	m.in(1)
	n := m.size[1]
	if len(m.size) == api.MaxProcs {
		return bad(api.NoProc)
	}
	at := m.swap.fit(n)
	if at < 0 {
		return bad(api.NoRoom)
	}
	m.swap.lay(at, n, pid)
	m.size[pid] = n
	return ok(pid)
}

func (m picture) end(pid int) {
	m.core.wipe(pid)
	m.swap.wipe(pid)
	delete(m.size, pid)
}

// TestPlacesAreAsInThePicture: whatever goes in, out, grows, forks and ends, all lie where the plain picture has them.
func TestPlacesAreAsInThePicture(t *testing.T) {
	for seed := range int64(60) {
		x := rand.New(rand.NewSource(seed))
		core, swap := 16+x.Intn(49), 8+x.Intn(120)
		r := start(t, core, swap, 4)
		m := picture{core: make(blocksOf, core), swap: make(blocksOf, swap), size: map[int]int{1: 4}}
		m.swap.lay(0, 4, 1)
		next := 2
		for range 150 {
			pids := r.k.Pids()
			pid := pids[x.Intn(len(pids))]
			switch x.Intn(6) {
			case 0, 1:
				r.goes(r.k.In, pid)
				m.in(pid)
			case 2:
				r.goes(r.k.Out, pid)
				m.core.wipe(pid)
			case 3:
				n := 1 + x.Intn(16)
				r.call(m.grow(pid, n), pid, api.Grow, n)
			case 4:
				want := m.fork(next)
				r.call(want, 1, api.Fork)
				if want.wrong == 0 {
					next++
				}
			case 5:
				if pid != 1 && x.Intn(2) == 0 {
					m.in(pid)
					r.exits(pid, 0)
					m.end(pid)
					m.in(1)
					r.call(ok(pid), 1, api.Wait, dataAt-1)
				}
			}
			r.free(m.core.free(), m.swap.free())
			for _, pid := range r.k.Pids() {
				r.lies(pid, slices.Index(m.swap, pid), slices.Index(m.core, pid))
			}
			if t.Failed() {
				t.Fatalf("seed %d", seed)
			}
		}
	}
}
