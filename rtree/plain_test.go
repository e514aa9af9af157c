package rtree_test

import (
	"bytes"
	"encoding/binary"
	"slices"

	"sodality/api"
	"sodality/trial"
)

// The chapter's numbers.
const (
	maxTree = 6
	ekBytes = 1184
	vkBytes = 1952
	maxName = 16
)

// What follows tells the chapter's words in another way, with trial's parts. plainRight tells each node by its kind and how long its lists are: there are few ways that are right.
func plainRight(t api.Tree) bool {
	if t.Deep < 0 || t.Deep > maxTree || len(t.Nodes) != 2*trial.ManyOf(t.Deep)-1 {
		return false
	}
	for _, p := range trial.PartsOf(t.Deep) {
		n := t.Nodes[p.Number()]
		named := min(max(len(n.Name), 1), maxName)
		above := len(n.Above) / 32 % 2 * 32
		switch shape := [5]int{len(n.Ek), len(n.Vk), len(n.Name), len(n.Above), len(n.Unmerged)}; {
		case n.Kind == api.Blank && shape == [5]int{}:
		case n.Kind == api.IsLeaf && p.Many == 1 && shape == [5]int{ekBytes, vkBytes, named, above, 0}:
		case n.Kind == api.IsNode && p.Many > 1 && shape == [5]int{ekBytes, 0, 0, above, len(n.Unmerged)} && plainMayLack(t, p, n.Unmerged):
		default:
			return false
		}
	}
	return true
}

// plainMayLack: are they, in that order, some of those below that are there?
func plainMayLack(t api.Tree, p trial.Part, unmerged []int) bool {
	return slices.Equal(unmerged, p.Chosen(t, func(p trial.Part, leaf int) bool { return slices.Contains(unmerged, leaf) }))
}

// plainAdd, plainReplaced and plainCut change a copy.
func plainAdd(t api.Tree, leaf api.Node) (api.Tree, int) {
	out := trial.CopiedTree(t)
	i := 0
	for i < trial.ManyOf(t.Deep) && out.Nodes[2*i].Kind != api.Blank {
		i++
	}
	if i == trial.ManyOf(t.Deep) {
		out.Deep++
		out.Nodes = append(out.Nodes, trial.BlankTree(out.Deep).Nodes[len(out.Nodes):]...)
	}
	out.Nodes[2*i] = leaf
	for _, p := range trial.PartsOf(out.Deep) {
		if n := &out.Nodes[p.Number()]; p.Many > 1 && p.Has(i) && n.Kind != api.Blank {
			n.Unmerged = append(n.Unmerged, i)
			slices.Sort(n.Unmerged)
		}
	}
	return out, i
}

func plainReplaced(t api.Tree, i int, leaf api.Node) api.Tree {
	out := trial.CopiedTree(t)
	for _, p := range trial.PartsOf(out.Deep) {
		if p.Has(i) {
			out.Nodes[p.Number()] = api.Node{}
		}
	}
	out.Nodes[2*i] = leaf
	return out
}

func plainCut(t api.Tree) api.Tree {
	left, right := trial.Whole(t.Deep).Halves()
	if t.Deep == 0 || len(right.There(t)) > 0 {
		return t
	}
	return plainCut(api.Tree{Deep: t.Deep - 1, Nodes: t.Nodes[:2*left.Many-1]})
}

// plainPut tells trees that are not right, too, if their numbers are not too great.
func plainPut(t api.Tree) []byte {
	out := bytes.NewBuffer([]byte{byte(t.Deep)})
	for _, n := range t.Nodes {
		out.Write(trial.NodeBytes(n))
	}
	return out.Bytes()
}

// plainGet throws the error of the first part that cannot be read, and catches it.
func plainGet(b []byte) (t api.Tree, err api.Errno) {
	defer func() {
		if r := recover(); r != nil {
			t, err = api.Tree{}, r.(api.Errno)
		}
	}()
	take := func(n int) []byte {
		throwIf(n > len(b), api.ErrEnd)
		first := b[:n]
		b = b[n:]
		return first
	}
	number := func(n int) int { return int(binary.BigEndian.Uint32(append(make([]byte, 4-n, 4), take(n)...))) }
	t.Deep = number(1)
	throwIf(t.Deep > maxTree, api.ErrTree)
	for range 2*trial.ManyOf(t.Deep) - 1 {
		n := api.Node{Kind: number(1)}
		for _, s := range []*[]byte{&n.Ek, &n.Vk, &n.Name, &n.Above} {
			*s = take(plainLength(number))
		}
		many := number(2)
		throwIf(many > 64, api.ErrTree)
		for range many {
			n.Unmerged = append(n.Unmerged, number(2))
		}
		t.Nodes = append(t.Nodes, n)
	}
	throwIf(len(b) > 0 || !plainRight(t), api.ErrTree)
	return t, api.OK
}

// plainLength reads a length's bytes.
func plainLength(number func(bytes int) int) int {
	length, least := number(1), 0
	switch length >> 6 {
	case 1:
		length, least = length<<8&0x3fff|number(1), 64
	case 2:
		length, least = length<<24&0x3fffffff|number(3), 16384
	case 3:
		panic(api.ErrLong)
	}
	throwIf(length < least, api.ErrLong)
	throwIf(length > 1<<20, api.ErrTooMany)
	return length
}

func throwIf(is bool, err api.Errno) {
	if is {
		panic(err)
	}
}
