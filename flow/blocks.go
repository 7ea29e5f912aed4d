package flow

import (
	"carafe/api"
	"carafe/code"
)

// Block is a run of instructions, from From on, up to but without To, and the blocks that may come behind its last one. Where what is thrown goes it does not tell.
type Block struct {
	From, To int
	Next     []int
}

// Blocks answers the blocks of l, in order.
func Blocks(l []api.Inst, h []api.Handler) []Block {
	leads := leaders(l, h)
	number := make([]int, len(l)) // of the block that a leader leads
	var blocks []Block
each:
	for from := 0; from < len(l); {
		number[from] = len(blocks)
		for to := from + 1; ; to++ {
			if to == len(l) || leads[to] {
				blocks = append(blocks, Block{From: from, To: to})
				from = to
				continue each
			}
		}
	}
	for i := range blocks {
		blocks[i].Next = Next(l, blocks[i].To-1)
		for k, n := range blocks[i].Next { // each of them leads a block, and blocks' numbers rise as their leaders' do
			blocks[i].Next[k] = number[n]
		}
	}
	return blocks
}

// leaders tells of each instruction whether a block begins with it.
func leaders(l []api.Inst, h []api.Handler) []bool {
	leads := make([]bool, len(l))
	lead := func(n int) {
		if n >= 0 && n < len(l) {
			leads[n] = true
		}
	}
	lead(0)
	for n, i := range l {
		lead(target(l, i))
		if code.Branch(i.Op) || code.Ends(i.Op) {
			lead(n + 1)
		}
	}
	for _, x := range h {
		lead(Find(l, x.From))
		lead(Find(l, x.To))
		lead(Find(l, x.At))
	}
	return leads
}
