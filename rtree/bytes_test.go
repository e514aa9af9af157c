package rtree_test

import (
	"slices"
	"testing"

	"sodality/api"
	"sodality/rtree"
	"sodality/trial"
)

// small has a node of each kind, an Above, and a leaf that is Unmerged.
func small() api.Tree {
	t := trial.TreeOf(1, 1)
	t.Nodes[1] = trial.NodeOf(1, 1)
	return t
}

// Parts of a node's bytes, in their order.
const (
	kindPart = iota
	ekPart
	vkPart
	namePart
	abovePart
	manyPart
	firstPart
)

// piecesOf are a tree's bytes, part by part: Deep, and those of each node.
func piecesOf(t api.Tree) [][]byte {
	out := [][]byte{{byte(t.Deep)}}
	for _, n := range t.Nodes {
		b := trial.NodeBytes(n)
		out = append(out, b[:1], trial.TextBytes(n.Ek), trial.TextBytes(n.Vk), trial.TextBytes(n.Name), trial.TextBytes(n.Above))
		for at := len(b) - 2 - 2*len(n.Unmerged); at < len(b); at += 2 {
			out = append(out, b[at:at+2])
		}
	}
	return out
}

// with has other bytes as one part of one node; from tells where that part begins.
func with(t api.Tree, number, part int, other []byte) (b []byte, from int) {
	pieces := piecesOf(t)
	at := 1 + part
	for _, n := range t.Nodes[:number] {
		at += firstPart + len(n.Unmerged)
	}
	pieces[at] = other
	return trial.Joined(pieces...), len(trial.Joined(pieces[:at]...))
}

// P14.1 (Z5): told by hand.
func TestBytesByHand(t *testing.T) {
	b, err := rtree.Put(trial.BlankTree(0))
	trial.WantErr(t, "Put", err, api.OK)
	trial.WantBytes(t, "a blank leaf alone", b, make([]byte, 8))
	tree := trial.TreeOf(0, 0)
	tree.Nodes[0].Name, tree.Nodes[0].Above = []byte("ab"), trial.Filled(32, 0)
	b, err = rtree.Put(tree)
	trial.WantErr(t, "Put", err, api.OK)
	trial.WantBytes(t, "a leaf alone", b, trial.Joined([]byte{0, 1, 0x44, 0xa0}, trial.Filled(ekBytes, 0), []byte{0x47, 0xa0}, trial.Filled(vkBytes, 1), []byte{2, 97, 98, 32}, trial.Filled(32, 0), []byte{0, 0}))
	b, err = rtree.Put(trial.BaseTree())
	trial.WantErr(t, "Put", err, api.OK)
	trial.WantNumber(t, "how many bytes it has", len(b), 11911)
	trial.WantNumber(t, "Deep", int(b[0]), 2)
	first := len(trial.NodeBytes(trial.BaseTree().Nodes[0]))
	trial.WantBytes(t, "a node's first bytes", b[1+first:][:3], []byte{2, 0x44, 0xa0})
	trial.WantBytes(t, "a node's bytes behind its key", b[1+first+3+ekBytes:][:3], []byte{0, 0, 32})
	trial.WantBytes(t, "a node's last bytes", b[1+first+3+ekBytes+3+32:][:4], []byte{0, 1, 0, 1})
}

// P14.4: what is read is written as it stood, and what is written is read as it was: trees of all kinds are gone through with wantTold; here are those that are full.
func TestThereAndBack(t *testing.T) {
	for deep := range maxTree + 1 {
		wantThereAndBack(t, trial.WithKeys(trial.FullTree(deep), trial.AllAre))
	}
	for which := range 40 {
		wantThereAndBack(t, trial.MixedTree(which%7, 300+which))
	}
	for _, all := range oneChanged() {
		for _, tree := range all {
			wantThereAndBack(t, tree)
		}
	}
}

// P14.1 (Z5): bytes that end at each place.
func TestBytesCut(t *testing.T) {
	b := plainPut(small())
	for n := range b {
		wantNotGot(t, "cut", b[:n], api.ErrEnd)
	}
	wantNotGot(t, "nil", nil, api.ErrEnd)
	deep := plainPut(trial.WithKeys(trial.FullTree(maxTree), trial.AllAre))
	for _, n := range []int{1, 2, 3, 1000, 10000, len(deep) / 2, len(deep) - 2, len(deep) - 1} {
		wantNotGot(t, "the deepest tree, cut", deep[:n], api.ErrEnd)
	}
}

// P14.1 (Z5): bytes that are left behind.
func TestBytesLeft(t *testing.T) {
	for _, tree := range trial.Trees() {
		b := plainPut(tree)
		for _, more := range [][]byte{{0}, {1}, {255}, make([]byte, 2), make([]byte, 7), make([]byte, 14), b} {
			wantNotGot(t, "bytes behind", trial.Joined(b, more), api.ErrTree)
		}
	}
}

// P14.1 (Z5): a Deep that may not be is told right behind it, whatever follows; one that may be is read on.
func TestDeepOfBytes(t *testing.T) {
	for deep := range 256 {
		for _, behind := range [][]byte{nil, {0}, make([]byte, 7), make([]byte, 7*127), make([]byte, 7*255), {0, 255}} {
			b := trial.Joined([]byte{byte(deep)}, behind)
			if _, want := plainGet(b); want != api.OK {
				wantNotGot(t, "a Deep", b, want)
			} else {
				wantThereAndBack(t, trial.BlankTree(deep))
			}
			if deep > maxTree {
				wantNotGot(t, "a Deep above 6", b, api.ErrTree)
			}
		}
	}
	for deep := range maxTree + 1 {
		got, err := rtree.Get(trial.Joined([]byte{byte(deep)}, make([]byte, 7*(2*trial.ManyOf(deep)-1))))
		wantMade(t, "blank ones", got, err, trial.BlankTree(deep))
		wantNotGot(t, "nothing behind Deep", []byte{byte(deep)}, api.ErrEnd)
	}
}

// P14.1 (Z5): lengths that are none, or too great, in each text of each node, and the error of the first one.
func TestLengthsOfTexts(t *testing.T) {
	long := trial.Joined([]byte{128, 16, 0, 0}, make([]byte, 1<<20))
	for number := range small().Nodes {
		for part := ekPart; part <= abovePart; part++ {
			for _, x := range []struct {
				bytes []byte
				want  api.Errno
			}{
				{[]byte{192}, api.ErrLong}, {[]byte{255, 255, 255, 255}, api.ErrLong}, {[]byte{64, 1, 7}, api.ErrLong}, {[]byte{64, 0}, api.ErrLong},
				{trial.Joined([]byte{64, 63}, make([]byte, 63)), api.ErrLong}, {trial.Joined([]byte{128, 0, 4, 160}, make([]byte, ekBytes)), api.ErrLong}, {[]byte{128, 0, 0, 0}, api.ErrLong},
				{[]byte{128, 16, 0, 1}, api.ErrTooMany}, {[]byte{191, 255, 255, 255}, api.ErrTooMany},
				{long, api.ErrTree}, {trial.TextBytes(make([]byte, 100)), api.ErrTree}, {trial.TextBytes(make([]byte, 9000)), api.ErrTree}, {trial.TextBytes([]byte{1}), map[bool]api.Errno{true: api.OK, false: api.ErrTree}[number == 2 && part == namePart]},
			} {
				b, from := with(small(), number, part, x.bytes)
				if x.want == api.OK {
					got, err := rtree.Get(b)
					trial.WantErr(t, "another name", err, api.OK)
					trial.WantBytes(t, "another name", plainPut(got), b)
					continue
				}
				wantNotGot(t, "another text", b, x.want)
				wantNotGot(t, "another text, and bytes left behind", trial.Joined(b, []byte{0}), x.want)
				wantNotGot(t, "ahead of another text, the end", b[:from], api.ErrEnd)
				if x.want == api.ErrLong || x.want == api.ErrTooMany {
					wantNotGot(t, "another text at the end", b[:from+len(x.bytes)], x.want)
				} else {
					wantNotGot(t, "within another text, the end", b[:from+len(x.bytes)-1], api.ErrEnd)
				}
			}
		}
	}
}

// P14.1 (Z5): at most 64 are Unmerged: more is told right behind that number, whatever follows; 64 are read.
func TestHowManyAreUnmerged(t *testing.T) {
	for number := range small().Nodes {
		for _, many := range []int{65, 66, 128, 255, 256, 257, 256 + 64, 1 << 15, 65535} {
			b, from := with(small(), number, manyPart, []byte{byte(many >> 8), byte(many)})
			wantNotGot(t, "too many Unmerged", b, api.ErrTree)
			wantNotGot(t, "too many Unmerged, at the end", b[:from+2], api.ErrTree)
			wantNotGot(t, "too many Unmerged, all of them there", trial.Joined(b[:from+2], make([]byte, 2*many)), api.ErrTree)
			wantNotGot(t, "half of that number", b[:from+1], api.ErrEnd)
		}
		for _, many := range []int{2, 63, 64} {
			b, from := with(small(), number, manyPart, []byte{0, byte(many)})
			wantNotGot(t, "as many Unmerged as may be, at the end", b[:from+2], api.ErrEnd)
			wantNotGot(t, "one of them not there", trial.Joined(b[:from+2], make([]byte, 2*many-2)), api.ErrEnd)
			wantNotGot(t, "half of the last one", trial.Joined(b[:from+2], make([]byte, 2*many-1)), api.ErrEnd)
			wantNotGot(t, "all of them there", trial.Joined(b[:from+2], make([]byte, 2*many), make([]byte, 7*(2-number))), api.ErrTree)
		}
	}
	tree := trial.WithKeys(trial.FullTree(maxTree), trial.AllAre)
	trial.WantNumber(t, "as many as may be", len(tree.Nodes[63].Unmerged), 64)
	wantThereAndBack(t, tree)
	b, _ := with(tree, 63, manyPart, []byte{0, 65})
	wantNotGot(t, "one more than may be", b, api.ErrTree)
	some := append(slices.Clone(tree.Nodes[63].Unmerged), 64)
	tree.Nodes[63].Unmerged = some
	wantNotGot(t, "one more, that is there", plainPut(tree), api.ErrTree)
}

// canBePut: are a tree's numbers such that its bytes tell it?
func canBePut(tree api.Tree) bool {
	isByte := func(n int) bool { return n >= 0 && n < 256 }
	return isByte(tree.Deep) && !slices.ContainsFunc(tree.Nodes, func(n api.Node) bool {
		return !isByte(n.Kind) || slices.ContainsFunc(n.Unmerged, func(i int) bool { return i < 0 || i > 65535 })
	})
}

// P14.1 (Z5): bytes of trees that are not right.
func TestBytesOfTreesThatAreNotRight(t *testing.T) {
	tried := 0
	for _, x := range trial.WrongTrees() {
		if !canBePut(x.Tree) {
			continue
		}
		tried++
		want := api.ErrTree
		if x.Tree.Deep <= maxTree && len(x.Tree.Nodes) < 2*trial.ManyOf(x.Tree.Deep)-1 {
			want = api.ErrEnd
		}
		wantNotGot(t, x.Name, plainPut(x.Tree), want)
	}
	if tried < 200 {
		t.Errorf("%d alone have been tried", tried)
	}
	for kind := 3; kind < 256; kind++ {
		for number := range small().Nodes {
			b, _ := with(small(), number, kindPart, []byte{byte(kind)})
			wantNotGot(t, "a Kind that is none", b, api.ErrTree)
		}
	}
}

// P2: the error of the first part that cannot be read is told, and whether the tree is right when all is read.
func TestSeveralErrorsOfBytes(t *testing.T) {
	none, long, many := []byte{3}, []byte{192}, []byte{0, 65}
	pieces := piecesOf(small())
	at := func(number, part int) int { return 1 + number*firstPart + part + number/2 }
	told := func(change map[int][]byte, cut int) []byte {
		other := slices.Clone(pieces)
		for i, b := range change {
			other[i] = b
		}
		return trial.Joined(other[:len(other)-cut]...)
	}
	for _, x := range []struct {
		change map[int][]byte
		cut    int
		want   api.Errno
	}{
		{map[int][]byte{at(0, kindPart): none}, 1, api.ErrEnd}, {map[int][]byte{at(0, kindPart): none, at(2, abovePart): long}, 0, api.ErrLong},
		{map[int][]byte{at(0, manyPart): many, at(1, ekPart): long}, 0, api.ErrTree}, {map[int][]byte{at(0, ekPart): long, at(1, manyPart): many}, 0, api.ErrLong},
		{map[int][]byte{at(0, ekPart): long, at(0, vkPart): {191, 255, 255, 255}}, 0, api.ErrLong}, {map[int][]byte{at(0, vkPart): {191, 255, 255, 255}, at(0, namePart): long}, 0, api.ErrTooMany},
		{map[int][]byte{at(0, manyPart): many}, 5, api.ErrTree}, {map[int][]byte{0: {7}, at(0, ekPart): long}, 0, api.ErrTree}, {map[int][]byte{0: {2}, at(0, ekPart): long}, 0, api.ErrLong}, {map[int][]byte{0: {2}}, 0, api.ErrEnd},
		{map[int][]byte{at(1, abovePart): long, 0: {6}}, 0, api.ErrLong}, {map[int][]byte{at(1, namePart): {1, 1}}, 0, api.ErrTree}, {map[int][]byte{at(1, namePart): {1, 1}}, 1, api.ErrEnd},
		{map[int][]byte{at(1, kindPart): none, at(1, manyPart): many}, 0, api.ErrTree}, {map[int][]byte{at(1, firstPart): {0, 0}, at(2, ekPart): long}, 0, api.ErrLong},
	} {
		wantNotGot(t, "several errors", told(x.change, x.cut), x.want)
	}
}

// P14.1 (Z5): whatever stands in the bytes where a part begins, and wherever they end, it is read as in the other way.
func TestWhateverBytes(t *testing.T) {
	errs := map[api.Errno]int{}
	for which := range 4000 {
		r := trial.Ordinary(16, which)
		pieces := piecesOf(trial.MixedTree(int(r[0])%3, which%16))
		for _, i := range r[1 : 1+which%3] {
			at := int(i) % len(pieces)
			pieces[at] = trial.Joined(pieces[at])
			pieces[at][int(r[5])%2%len(pieces[at])] = r[6] >> (r[7] % 8)
		}
		b := trial.Joined(pieces...)
		if r[8]%8 == 0 {
			b = b[:len(b)*int(r[9])/256]
		}
		want, err := plainGet(b)
		errs[err]++
		if err != api.OK {
			wantNotGot(t, "whatever bytes", b, err)
			continue
		}
		got, err := rtree.Get(b)
		wantMade(t, "whatever bytes", got, err, want)
		trial.WantBytes(t, "written again", plainPut(got), b)
	}
	for _, err := range []api.Errno{api.OK, api.ErrEnd, api.ErrLong, api.ErrTooMany, api.ErrTree} {
		if errs[err] < 10 {
			t.Errorf("error %d: %d times alone", err, errs[err])
		}
	}
}
