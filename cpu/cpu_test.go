package cpu

import (
	"slices"
	"testing"

	"ferry/api"
)

// with gives a state of two blocks: some words, and 0 behind them.
func with(a, b, p Word, words []Word) State {
	image := make([]Word, 16)
	copy(image, words)
	return State{A: a, B: b, P: p, Image: image}
}

func TestStep(t *testing.T) {
	type regs struct{ a, b, p Word }
	for why, c := range map[string]struct {
		from  regs
		words []Word
		to    regs
		after []Word // nil: the words are as they were
	}{
		"Set":                 {regs{1, 2, 0}, []Word{api.Set, 65535}, regs{65535, 2, 2}, nil},
		"Get":                 {regs{1, 2, 0}, []Word{api.Get, 3, 0, 9}, regs{9, 2, 2}, nil},
		"Get of itself":       {regs{0, 2, 0}, []Word{api.Get, 0}, regs{api.Get, 2, 2}, nil},
		"Get of the last":     {regs{0, 2, 0}, []Word{api.Get, 15, 15: 6}, regs{6, 2, 2}, nil},
		"Put":                 {regs{7, 2, 0}, []Word{api.Put, 3, 0, 9}, regs{7, 2, 2}, []Word{api.Put, 3, 0, 7}},
		"Put over itself":     {regs{7, 2, 0}, []Word{api.Put, 1}, regs{7, 2, 2}, []Word{api.Put, 7}},
		"Put at the last":     {regs{7, 2, 0}, []Word{api.Put, 15}, regs{7, 2, 2}, []Word{api.Put, 15, 15: 7}},
		"Add":                 {regs{7, 2, 0}, []Word{api.Add, 2, 8}, regs{15, 2, 2}, nil},
		"Add goes round":      {regs{65535, 2, 0}, []Word{api.Add, 2, 2}, regs{1, 2, 2}, nil},
		"Sub":                 {regs{7, 2, 0}, []Word{api.Sub, 2, 5}, regs{2, 2, 2}, nil},
		"Sub goes round":      {regs{0, 2, 0}, []Word{api.Sub, 2, 1}, regs{65535, 2, 2}, nil},
		"Jump":                {regs{1, 2, 0}, []Word{api.Jump, 9}, regs{1, 2, 9}, nil},
		"Jump beyond":         {regs{1, 2, 0}, []Word{api.Jump, 65535}, regs{1, 2, 65535}, nil},
		"Zero":                {regs{0, 2, 0}, []Word{api.Zero, 9}, regs{0, 2, 9}, nil},
		"Zero beyond":         {regs{0, 2, 0}, []Word{api.Zero, 65535}, regs{0, 2, 65535}, nil},
		"Zero, and it is not": {regs{1, 0, 0}, []Word{api.Zero, 9}, regs{1, 0, 2}, nil},
		"Turn":                {regs{1, 2, 0}, []Word{api.Turn, 65535}, regs{2, 1, 2}, nil},
		"Far":                 {regs{3, 2, 0}, []Word{api.Far, 65535, 0, 8}, regs{8, 2, 2}, nil},
		"Lay":                 {regs{8, 3, 0}, []Word{api.Lay, 65535}, regs{8, 3, 2}, []Word{api.Lay, 65535, 0, 8}},
		"an odd place":        {regs{5, 6, 1}, []Word{0, api.Set, 4}, regs{4, 6, 3}, nil},
		"the last two words":  {regs{5, 6, 14}, []Word{14: api.Set, 15: 4}, regs{4, 6, 16}, nil},
	} {
		if c.after == nil {
			c.after = c.words
		}
		s, want := with(c.from.a, c.from.b, c.from.p, c.words), with(c.to.a, c.to.b, c.to.p, c.after)
		outcome, call := s.Step()
		if outcome != Done || call != 0 || s.A != want.A || s.B != want.B || s.P != want.P || !slices.Equal(s.Image, want.Image) {
			t.Errorf("P5: %s: %d, %d, %v; want %v", why, outcome, call, s, want)
		}
	}
}

func TestStepTrap(t *testing.T) {
	for _, n := range []Word{0, api.Exit, api.Seek, 15, 65535} {
		s := with(65535, 3, 2, []Word{0, 0, api.Trap, n})
		if outcome, call := s.Step(); outcome != Called || call != n || s.A != 65535 || s.B != 3 || s.P != 4 {
			t.Errorf("P5: Trap %d: %d, %d, %v", n, outcome, call, s)
		}
	}
}

func TestStepBad(t *testing.T) {
	for why, s := range map[string]State{
		"Stop":           with(0, 0, 0, []Word{api.Stop, 0}),
		"12":             with(0, 0, 0, []Word{12, 0}),
		"65535":          with(0, 0, 0, []Word{65535, 0}),
		"Get beyond":     with(0, 0, 0, []Word{api.Get, 16}),
		"Put beyond":     with(0, 0, 0, []Word{api.Put, 16}),
		"Add beyond":     with(0, 0, 0, []Word{api.Add, 65535}),
		"Sub beyond":     with(0, 0, 0, []Word{api.Sub, 16}),
		"Far beyond":     with(16, 0, 0, []Word{api.Far, 0}),
		"Lay beyond":     with(0, 16, 0, []Word{api.Lay, 0}),
		"P beyond":       with(0, 0, 16, nil),
		"half of it":     with(0, 0, 15, []Word{15: api.Turn}),
		"the last place": with(0, 0, 65535, []Word{api.Turn}),
		"no image":       {},
	} {
		before := slices.Clone(s.Image)
		if outcome, call := s.Step(); outcome != Bad || call != 0 || !slices.Equal(s.Image, before) {
			t.Errorf("P5: %s: %d, %d, %v", why, outcome, call, s)
		}
	}
}

func TestWords(t *testing.T) {
	s := with(0, 0, 0, nil)
	for _, c := range []struct {
		at Word
		n  int
		ok bool
	}{{0, 16, true}, {15, 1, true}, {0, 17, false}, {15, 2, false}, {16, 1, false}, {65535, 1, false}, {65535, 65535, false}, {16, 0, true}, {65535, 0, true}} {
		if l, ok := s.Words(c.at, c.n); ok != c.ok || ok && len(l) != c.n {
			t.Errorf("Words(%d, %d) = %v, %v", c.at, c.n, l, ok)
		}
	}
	l, _ := s.Words(3, 2)
	l[1] = 7
	_ = append(l, 8)
	if s.Image[4] != 7 || s.Image[5] != 0 {
		t.Errorf("Words(3, 2) written into: %v", s.Image)
	}
}
