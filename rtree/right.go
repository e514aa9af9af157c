package rtree

import (
	"sodality/api"
	"sodality/spot"
)

const sumBytes = 32

// leaves and nodes are as many as a tree so deep has.
func leaves(deep int) int { return 1 << deep }

func nodes(deep int) int { return 2*leaves(deep) - 1 }

// isRight: is the node of that number, in a tree that has as many as it should?
func isRight(t api.Tree, number int) bool {
	isEven := number%2 == 0
	n := t.Nodes[number]
	switch n.Kind {
	case api.Blank:
		return isRightBlank(n)
	case api.IsLeaf:
		return isEven && isRightLeaf(n)
	case api.IsNode:
		return !isEven && isRightNode(n) && mayBeUnmerged(t, spot.At(number), n.Unmerged)
	}
	return false
}

func isRightBlank(n api.Node) bool {
	return n.Kind == api.Blank && len(n.Ek) == 0 && !isSigner(n) && len(n.Above) == 0 && len(n.Unmerged) == 0
}

func isRightLeaf(n api.Node) bool {
	isNamed := len(n.Name) >= 1 && len(n.Name) <= api.MaxName
	return n.Kind == api.IsLeaf && hasKey(n) && len(n.Vk) == api.DsaPk && isNamed && len(n.Unmerged) == 0
}

// isRightNode says nothing of those that are Unmerged: the tree tells who they may be.
func isRightNode(n api.Node) bool {
	return n.Kind == api.IsNode && hasKey(n) && !isSigner(n)
}

// hasKey: has it what leaves and nodes alike must have?
func hasKey(n api.Node) bool {
	return len(n.Ek) == api.KemEk && (len(n.Above) == 0 || len(n.Above) == sumBytes)
}

// isSigner: has it what a leaf alone may have?
func isSigner(n api.Node) bool { return len(n.Vk) > 0 || len(n.Name) > 0 }

// mayBeUnmerged: may those leaves be, at that spot? What the spot is over is in the tree, so that it can be looked at there.
func mayBeUnmerged(t api.Tree, s complex128, unmerged []int) bool {
	last := -1
	for _, leaf := range unmerged {
		if leaf <= last || !spot.Over(s, leaf) || !isThere(t, leaf) {
			return false
		}
		last = leaf
	}
	return true
}

func isThere(t api.Tree, leaf int) bool {
	return leaf >= 0 && leaf < leaves(t.Deep) && t.Nodes[2*leaf].Kind != api.Blank
}

func hasSpot(t api.Tree, s complex128) bool { return Right(t) && spot.Right(s, t.Deep) }
