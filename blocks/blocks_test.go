package blocks

import (
	"math/rand"
	"slices"
	"testing"
)

type place int

func TestOf(t *testing.T) {
	for words, want := range map[int]int{0: 0, 1: 1, 7: 1, 8: 1, 9: 2, 64: 8, 121: 16, 128: 16} {
		if n := Of(words); n != want {
			t.Errorf("%d blocks of %d words, want %d", n, words, want)
		}
	}
}

// full gives a map of n blocks, each of which has been taken.
func full(t *testing.T, n int) Map[place] {
	t.Helper()
	m := New[place](n)
	if at, ok := m.Take(n); at != 0 || !ok || len(m.Runs()) != 0 {
		t.Fatalf("Take(%d) of all = %d, %v, then %v", n, at, ok, m.Runs())
	}
	return m
}

func TestTakeIsFirstFit(t *testing.T) {
	m := full(t, 30)
	m.Give(2, 2)
	m.Give(10, 5)
	m.Give(20, 9)
	for _, c := range []struct {
		n    int
		at   place
		ok   bool
		runs []Run[place]
	}{
		{10, 0, false, []Run[place]{{2, 2}, {10, 5}, {20, 9}}},
		{3, 10, true, []Run[place]{{2, 2}, {13, 2}, {20, 9}}},
		{2, 2, true, []Run[place]{{13, 2}, {20, 9}}},
		{3, 20, true, []Run[place]{{13, 2}, {23, 6}}},
		{1, 13, true, []Run[place]{{14, 1}, {23, 6}}},
		{7, 0, false, []Run[place]{{14, 1}, {23, 6}}},
		{6, 23, true, []Run[place]{{14, 1}}},
		{0, 0, false, []Run[place]{{14, 1}}},
		{-1, 0, false, []Run[place]{{14, 1}}},
		{1, 14, true, nil},
		{1, 0, false, nil},
	} {
		at, ok := m.Take(c.n)
		if at != c.at || ok != c.ok || !slices.Equal(m.Runs(), c.runs) {
			t.Errorf("Take(%d) = %d, %v, then %v; want %d, %v, %v", c.n, at, ok, m.Runs(), c.at, c.ok, c.runs)
		}
	}
}

func TestGiveJoinsWhatTouches(t *testing.T) {
	m := full(t, 30)
	for _, c := range []struct {
		from place
		n    int
		runs []Run[place]
	}{
		{10, 2, []Run[place]{{10, 2}}},
		{20, 2, []Run[place]{{10, 2}, {20, 2}}},
		{0, 3, []Run[place]{{0, 3}, {10, 2}, {20, 2}}},
		{12, 1, []Run[place]{{0, 3}, {10, 3}, {20, 2}}},
		{8, 2, []Run[place]{{0, 3}, {8, 5}, {20, 2}}},
		{13, 7, []Run[place]{{0, 3}, {8, 14}}},
		{5, 0, []Run[place]{{0, 3}, {8, 14}}},
		{22, 8, []Run[place]{{0, 3}, {8, 22}}},
		{3, 5, []Run[place]{{0, 30}}},
	} {
		m.Give(c.from, c.n)
		if !slices.Equal(m.Runs(), c.runs) {
			t.Errorf("Give(%d, %d): %v, want %v", c.from, c.n, m.Runs(), c.runs)
		}
	}
}

func TestNoBlocks(t *testing.T) {
	for _, n := range []int{0, -1} {
		m := New[place](n)
		if at, ok := m.Take(1); at != 0 || ok || len(m.Runs()) != 0 {
			t.Errorf("a map of %d blocks: Take(1) = %d, %v", n, at, ok)
		}
	}
}

func TestRunsAreNewMemory(t *testing.T) {
	m := full(t, 9)
	m.Give(1, 1)
	m.Give(5, 1)
	l := m.Runs()
	l[0] = Run[place]{7, 7}
	_ = append(l[:1], Run[place]{8, 8})
	if !slices.Equal(m.Runs(), []Run[place]{{1, 1}, {5, 1}}) {
		t.Errorf("what was told was written into: %v", m.Runs())
	}
}

// TestSmallKind: the place behind the last block is more than a uint8 holds.
func TestSmallKind(t *testing.T) {
	m := New[uint8](256)
	for i := range 256 {
		if at, ok := m.Take(1); int(at) != i || !ok {
			t.Fatalf("Take number %d = %d, %v", i, at, ok)
		}
	}
	m.Give(255, 1)
	m.Give(0, 1)
	if !slices.Equal(m.Runs(), []Run[uint8]{{0, 1}, {255, 1}}) {
		t.Errorf("the first and the last: %v", m.Runs())
	}
	m.Give(1, 254)
	if !slices.Equal(m.Runs(), []Run[uint8]{{0, 256}}) {
		t.Errorf("all: %v", m.Runs())
	}
}

// plain is a map as a list of which blocks are free.
type plain [40]bool

func (f *plain) runs() []Run[place] {
	var l []Run[place]
	for i, free := range f {
		switch {
		case !free:
		case i > 0 && f[i-1]:
			l[len(l)-1].Blocks++
		default:
			l = append(l, Run[place]{place(i), 1})
		}
	}
	return l
}

func (f *plain) set(from place, n int, free bool) {
	for i := range n {
		f[int(from)+i] = free
	}
}

func TestAgainstPlainList(t *testing.T) {
	r := rand.New(rand.NewSource(1))
	m, f := New[place](len(plain{})), plain{}
	f.set(0, len(f), true)
	var taken []Run[place]
	for range 5000 {
		if n := 1 + r.Intn(9); len(taken) == 0 || r.Intn(2) == 0 {
			runs := f.runs()
			i := slices.IndexFunc(runs, func(x Run[place]) bool { return x.Blocks >= n })
			at, ok := m.Take(n)
			if ok != (i >= 0) || ok && at != runs[i].From {
				t.Fatalf("Take(%d) of %v = %d, %v", n, runs, at, ok)
			}
			if ok {
				f.set(at, n, false)
				taken = append(taken, Run[place]{at, n})
			}
		} else {
			i := r.Intn(len(taken))
			m.Give(taken[i].From, taken[i].Blocks)
			f.set(taken[i].From, taken[i].Blocks, true)
			taken = slices.Delete(taken, i, i+1)
		}
		if !slices.Equal(m.Runs(), f.runs()) {
			t.Fatalf("runs: %v, want %v", m.Runs(), f.runs())
		}
	}
}
