package rtree

import (
	"sodality/api"
	"sodality/wire"
)

// The bytes of each number, and how many Unmerged ones are read at most.
const (
	deepBytes    = 1
	kindBytes    = 1
	leafBytes    = 2
	mostUnmerged = 64
)

// nodeBytes are a right node's: none of its texts is too long, and none of its numbers too great.
func nodeBytes(n api.Node) []byte {
	out := wire.Number(int64(n.Kind), kindBytes)
	for _, s := range [][]byte{n.Ek, n.Vk, n.Name, n.Above} {
		text, _ := wire.Text(s)
		out = append(out, text...)
	}
	out = append(out, wire.Number(int64(len(n.Unmerged)), leafBytes)...)
	for _, leaf := range n.Unmerged {
		out = append(out, wire.Number(int64(leaf), leafBytes)...)
	}
	return out
}

// reader reads parts one behind the other; from its first error on it reads none.
type reader struct {
	b   []byte
	at  int
	err api.Errno
}

// fail keeps the first error alone.
func (r *reader) fail(err api.Errno) {
	if r.err == api.OK {
		r.err = err
	}
}

func (r *reader) number(size int) int {
	if r.err != api.OK {
		return 0
	}
	n, at, err := wire.GetNumber(r.b, r.at, size)
	r.at, r.err = at, err
	return int(n)
}

func (r *reader) text() []byte {
	if r.err != api.OK {
		return nil
	}
	s, at, err := wire.GetText(r.b, r.at)
	r.at, r.err = at, err
	return s
}

// tree is one that need not be right.
func (r *reader) tree() api.Tree {
	deep := r.number(deepBytes)
	if deep > api.MaxTree {
		r.fail(api.ErrTree)
		return api.Tree{}
	}
	t := api.Tree{Deep: deep, Nodes: make([]api.Node, nodes(deep))}
	for i := range t.Nodes {
		t.Nodes[i] = r.node()
	}
	return t
}

func (r *reader) node() api.Node {
	return api.Node{Kind: r.number(kindBytes), Ek: r.text(), Vk: r.text(), Name: r.text(), Above: r.text(), Unmerged: r.unmerged()}
}

func (r *reader) unmerged() []int {
	many := r.number(leafBytes)
	if many > mostUnmerged {
		r.fail(api.ErrTree)
		return nil
	}
	var out []int
	for range many {
		out = append(out, r.number(leafBytes))
	}
	return out
}
