package rtree_test

import (
	"bytes"
	"crypto/sha256"
	"encoding/binary"
	"slices"

	"sodality/api"
	"sodality/trial"
)

// What follows tells the chapter's words in another way: a spot by the leaves below it, which are so many, side by side.
type part struct{ from, many int }

func manyOf(deep int) int {
	many := 1
	for range deep {
		many += many
	}
	return many
}

// number is in the midst of those of the leaves, which are even.
func (p part) number() int { return 2*p.from + p.many - 1 }

func (p part) spot() complex128 {
	level := 0
	for many := p.many; many > 1; many /= 2 {
		level++
	}
	return complex(float64(level), float64(p.from/p.many))
}

func (p part) has(leaf int) bool { return leaf >= p.from && leaf < p.from+p.many }

func (p part) isOver(q part) bool { return q.from >= p.from && q.from+q.many <= p.from+p.many }

// partsOf are all of a tree, those with the most leaves first, and of as many from left to right.
func partsOf(deep int) []part {
	var out []part
	for many := manyOf(deep); many > 0; many /= 2 {
		for from := 0; from < manyOf(deep); from += many {
			out = append(out, part{from, many})
		}
	}
	return out
}

// plainRight tells each node by its kind and how long its lists are: there are few ways that are right.
func plainRight(t api.Tree) bool {
	if t.Deep < 0 || t.Deep > maxTree || len(t.Nodes) != 2*manyOf(t.Deep)-1 {
		return false
	}
	for _, p := range partsOf(t.Deep) {
		n := t.Nodes[p.number()]
		named := min(max(len(n.Name), 1), maxName)
		above := len(n.Above) / 32 % 2 * 32
		switch shape := [5]int{len(n.Ek), len(n.Vk), len(n.Name), len(n.Above), len(n.Unmerged)}; {
		case n.Kind == api.Blank && shape == [5]int{}:
		case n.Kind == api.IsLeaf && p.many == 1 && shape == [5]int{ekBytes, vkBytes, named, above, 0}:
		case n.Kind == api.IsNode && p.many > 1 && shape == [5]int{ekBytes, 0, 0, above, len(n.Unmerged)} && plainMayLack(t, p, n.Unmerged):
		default:
			return false
		}
	}
	return true
}

// plainMayLack: are they, in that order, some of those below that are there?
func plainMayLack(t api.Tree, p part, unmerged []int) bool {
	return slices.Equal(unmerged, plainUnmerged(t, p, func(p part, leaf int) bool { return slices.Contains(unmerged, leaf) }))
}

func plainLeaves(t api.Tree, p part) []int { return plainUnmerged(t, p, allAre) }

// plainResolve looks at all parts in or below one: there stand for it those that are not blank, with no such above them.
func plainResolve(t api.Tree, p part) []int {
	var first []part
	for _, q := range partsOf(t.Deep) {
		if p.isOver(q) && t.Nodes[q.number()].Kind != api.Blank && !slices.ContainsFunc(first, func(r part) bool { return r.isOver(q) }) {
			first = append(first, q)
		}
	}
	slices.SortFunc(first, func(a, b part) int { return a.from - b.from })
	var out []int
	for _, q := range first {
		out = append(out, q.number())
		for _, i := range t.Nodes[q.number()].Unmerged {
			out = append(out, 2*i)
		}
	}
	return out
}

// plainAdd, plainReplaced and plainCut change a copy.
func plainAdd(t api.Tree, leaf api.Node) (api.Tree, int) {
	out := trial.CopiedTree(t)
	i := 0
	for i < manyOf(t.Deep) && out.Nodes[2*i].Kind != api.Blank {
		i++
	}
	if i == manyOf(t.Deep) {
		out.Deep++
		out.Nodes = append(out.Nodes, blankTree(out.Deep).Nodes[len(out.Nodes):]...)
	}
	out.Nodes[2*i] = leaf
	for _, p := range partsOf(out.Deep) {
		if n := &out.Nodes[p.number()]; p.many > 1 && p.has(i) && n.Kind != api.Blank {
			n.Unmerged = append(n.Unmerged, i)
			slices.Sort(n.Unmerged)
		}
	}
	return out, i
}

func plainReplaced(t api.Tree, i int, leaf api.Node) api.Tree {
	out := trial.CopiedTree(t)
	for _, p := range partsOf(out.Deep) {
		if p.has(i) {
			out.Nodes[p.number()] = api.Node{}
		}
	}
	out.Nodes[2*i] = leaf
	return out
}

func plainCut(t api.Tree) api.Tree {
	half := manyOf(t.Deep) / 2
	if t.Deep == 0 || len(plainLeaves(t, part{half, half})) > 0 {
		return t
	}
	return plainCut(api.Tree{Deep: t.Deep - 1, Nodes: t.Nodes[:2*half-1]})
}

// plainText is told for texts up to 2^14 bytes.
func plainText(s []byte) []byte {
	if len(s) < 64 {
		return trial.Joined([]byte{byte(len(s))}, s)
	}
	return trial.Joined(binary.BigEndian.AppendUint16(nil, uint16(len(s)|1<<14)), s)
}

func plainNode(n api.Node) []byte {
	out := trial.Joined([]byte{byte(n.Kind)}, plainText(n.Ek), plainText(n.Vk), plainText(n.Name), plainText(n.Above))
	out = binary.BigEndian.AppendUint16(out, uint16(len(n.Unmerged)))
	for _, leaf := range n.Unmerged {
		out = binary.BigEndian.AppendUint16(out, uint16(leaf))
	}
	return out
}

// plainPut tells trees that are not right, too, if their numbers are not too great.
func plainPut(t api.Tree) []byte {
	out := bytes.NewBuffer([]byte{byte(t.Deep)})
	for _, n := range t.Nodes {
		out.Write(plainNode(n))
	}
	return out.Bytes()
}

// plainSums are all of a tree, by the nodes' numbers: those of the leaves first, and each level from that below it.
func plainSums(t api.Tree) [][]byte {
	out := make([][]byte, len(t.Nodes))
	all := partsOf(t.Deep)
	slices.Reverse(all)
	for _, p := range all {
		b := plainNode(t.Nodes[p.number()])
		if half := p.many / 2; half > 0 {
			b = trial.Joined(b, out[part{p.from, half}.number()], out[part{p.from + half, half}.number()])
		}
		sum := sha256.Sum256(b)
		out[p.number()] = sum[:]
	}
	return out
}

// plainGet throws the error of the first part that cannot be read, and catches it.
func plainGet(b []byte) (t api.Tree, err api.Errno) {
	defer func() {
		if r := recover(); r != nil {
			t, err = api.Tree{}, r.(api.Errno)
		}
	}()
	take := func(n int) []byte {
		throwIf(n > len(b), api.ErrEnd)
		first := b[:n]
		b = b[n:]
		return first
	}
	number := func(n int) int { return int(binary.BigEndian.Uint32(append(make([]byte, 4-n, 4), take(n)...))) }
	t.Deep = number(1)
	throwIf(t.Deep > maxTree, api.ErrTree)
	for range 2*manyOf(t.Deep) - 1 {
		n := api.Node{Kind: number(1)}
		for _, s := range []*[]byte{&n.Ek, &n.Vk, &n.Name, &n.Above} {
			*s = take(plainLength(number))
		}
		many := number(2)
		throwIf(many > 64, api.ErrTree)
		for range many {
			n.Unmerged = append(n.Unmerged, number(2))
		}
		t.Nodes = append(t.Nodes, n)
	}
	throwIf(len(b) > 0 || !plainRight(t), api.ErrTree)
	return t, api.OK
}

// plainLength reads a length's bytes.
func plainLength(number func(bytes int) int) int {
	length, least := number(1), 0
	switch length >> 6 {
	case 1:
		length, least = length<<8&0x3fff|number(1), 64
	case 2:
		length, least = length<<24&0x3fffffff|number(3), 16384
	case 3:
		panic(api.ErrLong)
	}
	throwIf(length < least, api.ErrLong)
	throwIf(length > 1<<20, api.ErrTooMany)
	return length
}

func throwIf(is bool, err api.Errno) {
	if is {
		panic(err)
	}
}
