package ferry

import (
	"ferry/api"
	"ferry/blocks"
	"ferry/cpu"
)

// mayBe tells whether there may be such a machine (P3).
func mayBe(c api.Config) bool {
	if c.Core < api.MinCore || c.Core > api.MaxCore || c.Swap < 1 || c.Swap > api.MaxSwap {
		return false
	}
	n := len(c.Program)
	if n < 1 || n > api.MaxImage*api.Block || !areWords(c.Program) {
		return false
	}
	return blocks.Of(n) <= c.Swap && mayBeFiles(c.Files)
}

func mayBeFiles(files [][]int) bool {
	if len(files) > api.Names {
		return false
	}
	taken := 0
	for _, f := range files {
		if len(f) > api.MaxFile || !areWords(f) {
			return false
		}
		taken += blocks.Of(len(f))
	}
	return taken <= api.Disk
}

func areWords(list []int) bool {
	for _, n := range list {
		if n != int(cpu.Word(n)) {
			return false
		}
	}
	return true
}

func toWords(list []int) []cpu.Word {
	words := make([]cpu.Word, len(list))
	for i, n := range list {
		words[i] = cpu.Word(n)
	}
	return words
}

func toInts(words []cpu.Word) []int {
	list := make([]int, len(words))
	for i, w := range words {
		list[i] = int(w)
	}
	return list
}
