package treekey

import (
	"iter"

	"passkey/api"
	"passkey/digest"
	"passkey/onetime"
)

// isHeight says whether a key can have this height.
func isHeight(height int) bool {
	return height >= 0 && height <= api.MaxHeight
}

// hasLeaf says whether a key can have this height and then has this leaf.
func hasLeaf(height, leaf int) bool {
	return isHeight(height) && leaf >= 0 && leaf < 1<<height
}

// levels yields the number and the nodes of each level of a tree, from the leaves up to the root.
func levels(seed uint64, height int) iter.Seq2[int, []uint64] {
	return func(yield func(int, []uint64) bool) {
		nodes := leaves(seed, height)
		for level := 0; yield(level, nodes) && level < height; level++ {
			nodes = parents(level+1, nodes)
		}
	}
}

// leaves returns the nodes at level 0.
func leaves(seed uint64, height int) []uint64 {
	nodes := make([]uint64, 1<<height)
	for leaf := range nodes {
		nodes[leaf] = onetime.Public(seed, leaf)
	}
	return nodes
}

// parents returns the nodes at a level, given those of the level below.
func parents(level int, nodes []uint64) []uint64 {
	l := make([]uint64, len(nodes)/2)
	for i := range l {
		l[i] = node(level, nodes[2*i], nodes[2*i+1])
	}
	return l
}

// climb returns the root of the tree in which the leaf has the public word x, and its ancestors have the siblings path.
func climb(leaf int, x uint64, path []uint64) uint64 {
	for level, sibling := range path {
		if leaf>>level&1 == 0 {
			x = node(level+1, x, sibling)
		} else {
			x = node(level+1, sibling, x)
		}
	}
	return x
}

// node returns the node at a level above 0 that has these children.
func node(level int, left, right uint64) uint64 {
	return digest.Hash(api.DomainNode, digest.Words(uint64(level), left, right))
}
