package ferry

import (
	"ferry/api"
	"ferry/cpu"
)

// mayBe tells whether there may be such a machine (P3).
func mayBe(c api.Config) bool {
	if c.Core < api.MinCore || c.Core > api.MaxCore || c.Swap < 1 || c.Swap > api.MaxSwap {
		return false
	}
	n := len(c.Program)
	if n < 1 || n > api.MaxImage*api.Block || !areWords(c.Program) {
		return false
	}
	return blocksOf(n) <= c.Swap && mayBeFiles(c.Files)
}

func mayBeFiles(files [][]int) bool {
	if len(files) > api.Names {
		return false
	}
	taken := 0
	for _, f := range files {
		if len(f) > api.MaxFile || !areWords(f) {
			return false
		}
		taken += blocksOf(len(f))
	}
	return taken <= api.Disk
}

func areWords(list []int) bool {
	for _, n := range list {
		if n != int(cpu.Word(n)) {
			return false
		}
	}
	return true
}

// blocksOf tells how many blocks hold so many words.
func blocksOf(words int) int { return (words + api.Block - 1) / api.Block }

// toWords gives new memory of a size with the words of a list, and 0 behind them.
func toWords(list []int, size int) []cpu.Word {
	words := make([]cpu.Word, size)
	for i, n := range list {
		words[i] = cpu.Word(n)
	}
	return words
}

func toInts(words []cpu.Word) []int {
	list := make([]int, len(words))
	for i, w := range words {
		list[i] = int(w)
	}
	return list
}
