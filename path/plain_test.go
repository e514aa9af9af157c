package path_test

import (
	"bytes"
	"crypto/hmac"
	"crypto/sha256"
	"slices"
	"testing"

	"sodality/api"
	"sodality/box"
	"sodality/mlkem"
	"sodality/trial"
)

const (
	maxInfo = 10000
	ekBytes = 1184
)

// What follows tells the chapter's words in another way, with trial's parts, and the language's own HMAC and SHA-256. plainLabel is a key of 32 bytes, the one piece that there is of it.
func plainLabel(key []byte, label string, context []byte) []byte {
	h := hmac.New(sha256.New, key)
	h.Write(trial.Joined([]byte{0, 32}, trial.TextBytes([]byte("GKA 1.0 "+label)), trial.TextBytes(context), []byte{1}))
	return h.Sum(nil)
}

// plainSecrets are so many, one behind the other.
func plainSecrets(first []byte, many int) [][]byte {
	out := [][]byte{first}
	for len(out) < many {
		out = append(out, plainLabel(out[len(out)-1], "path", nil))
	}
	return out
}

func plainKeys(t *testing.T, secret []byte) pair {
	t.Helper()
	ek, dk, err := mlkem.Keys(plainLabel(secret, "node d", nil), plainLabel(secret, "node z", nil))
	trial.WantErr(t, "mlkem.Keys", err, api.OK)
	return pair{ek, dk}
}

// numberBytes are told for numbers of nodes of the deepest tree: one of the four tells them.
func numberBytes(number int) []byte { return []byte{0, 0, 0, byte(number)} }

func plainBox(t *testing.T, ek, info []byte, number int, secret []byte) []byte {
	t.Helper()
	sent, err := box.Send(ek, info, numberBytes(number), secret, plainLabel(secret, "coins", numberBytes(number)))
	trial.WantErr(t, "box.Send", err, api.OK)
	return sent
}

// step is a part over a leaf, and the half of it that is not.
type step struct{ over, beside trial.Part }

// plainPath is of all parts over a leaf that are more than it, from below; plainWay of those beside which something is.
func plainPath(tree api.Tree, leaf int) []step {
	var out []step
	for _, p := range slices.Backward(trial.PartsOf(tree.Deep)) {
		if p.Many > 1 && p.Has(leaf) {
			left, right := p.Halves()
			if left.Has(leaf) {
				left, right = right, left
			}
			out = append(out, step{p, left})
		}
	}
	return out
}

func plainWay(tree api.Tree, leaf int) []step {
	return slices.DeleteFunc(plainPath(tree, leaf), func(s step) bool { return len(s.beside.Resolve(tree)) == 0 })
}

// plainTold looks at skip for leaves of the deepest tree alone.
func plainTold(tree api.Tree, s step, skip []int) []int {
	var out []int
	for _, number := range s.beside.Resolve(tree) {
		isNew := slices.ContainsFunc(skip, func(i int) bool { return i >= 0 && i < 64 && i+i == number })
		if !isNew {
			out = append(out, number)
		}
	}
	return out
}

// plainAbove is the sum above of what is below a step, of the node that is there, and of the sums of all nodes.
func plainAbove(s step, n api.Node, sums [][]byte) []byte {
	sum := sha256.Sum256(trial.Joined(trial.TextBytes(n.Ek), trial.TextBytes(n.Above), sums[s.beside.Number()]))
	return sum[:]
}

// plainLaid puts nodes from the top down; what is beside them has the sum that it had.
func plainLaid(tree api.Tree, leaf int, u api.Update) api.Tree {
	out, sums := trial.CopiedTree(tree), trial.SumsOf(tree, sha256.Sum256)
	for _, s := range plainPath(tree, leaf) {
		out.Nodes[s.over.Number()] = api.Node{}
	}
	var above []byte
	for i, s := range slices.Backward(plainWay(tree, leaf)) {
		n := api.Node{Kind: api.IsNode, Ek: u.Steps[i].Ek, Above: above}
		out.Nodes[s.over.Number()], above = n, plainAbove(s, n, sums)
	}
	out.Nodes[2*leaf].Ek, out.Nodes[2*leaf].Above = u.Ek, above
	return out
}

// plainIsRight goes up from the leaf.
func plainIsRight(tree api.Tree, leaf int) bool {
	sums, below := trial.SumsOf(tree, sha256.Sum256), tree.Nodes[2*leaf]
	for _, s := range plainWay(tree, leaf) {
		n := tree.Nodes[s.over.Number()]
		if below.Kind != api.Blank && !bytes.Equal(below.Above, plainAbove(s, n, sums)) {
			return false
		}
		below = n
	}
	return len(below.Above) == 0
}

// made is what comes of a path, for who makes it, or for who takes it.
type made struct {
	tree   api.Tree
	u      api.Update
	own    []api.Own
	commit []byte
}

// plainMake is told where there is no error.
func plainMake(t *testing.T, m making) made {
	t.Helper()
	way := plainWay(m.tree, m.leaf)
	secrets := plainSecrets(m.seed, len(way)+2)
	first := plainKeys(t, m.seed)
	out := made{u: api.Update{Ek: first.ek}, own: []api.Own{{Node: 2 * m.leaf, Dk: first.dk}}, commit: secrets[len(way)+1]}
	for i, s := range way {
		secret := secrets[i+1]
		keys, boxes := plainKeys(t, secret), [][]byte(nil)
		for _, number := range plainTold(m.tree, s, m.skip) {
			boxes = append(boxes, plainBox(t, m.tree.Nodes[number].Ek, m.info, number, secret))
		}
		out.u.Steps = append(out.u.Steps, api.Step{Ek: keys.ek, Boxes: boxes})
		out.own = append(out.own, api.Own{Node: s.over.Number(), Dk: keys.dk})
	}
	out.own, out.tree = plainSorted(out.own), plainLaid(m.tree, m.leaf, out.u)
	return out
}

// plainSorted takes out the first one of the least number, as long as there is one.
func plainSorted(all []api.Own) []api.Own {
	var out []api.Own
	for rest := slices.Clone(all); len(rest) > 0; {
		least := 0
		for i, own := range rest {
			if own.Node < rest[least].Node {
				least = i
			}
		}
		out = append(out, rest[least])
		rest = slices.Delete(rest, least, least+1)
	}
	return out
}

// plainKept are those of no part over the leaf, be it the leaf itself.
func plainKept(tree api.Tree, leaf int, mine []api.Own) []api.Own {
	return slices.DeleteFunc(slices.Clone(mine), func(own api.Own) bool {
		return slices.ContainsFunc(trial.PartsOf(tree.Deep), func(p trial.Part) bool { return p.Has(leaf) && p.Number() == own.Node })
	})
}

// plainFits looks at keys in the way that the chapter of mlkem tells them: each three bytes are two numbers below 3329.
func plainFits(tree api.Tree, leaf int, u api.Update) bool {
	fits := len(u.Steps) == len(plainWay(tree, leaf)) && plainRightKey(u.Ek)
	for _, s := range u.Steps {
		fits = fits && plainRightKey(s.Ek)
	}
	return fits
}

func plainRightKey(ek []byte) bool {
	if len(ek) != ekBytes {
		return false
	}
	for b := ek[:ekBytes-32]; len(b) > 0; b = b[3:] {
		if int(b[0])+int(b[1])%16*256 >= 3329 || int(b[1])/16+int(b[2])*16 >= 3329 {
			return false
		}
	}
	return true
}

// plainTake is told for trees that are right, leaves that are there, and an info that is not too long.
func plainTake(t *testing.T, x taking) (made, api.Errno) {
	t.Helper()
	way := plainWay(x.tree, x.leaf)
	if !plainFits(x.tree, x.leaf, x.u) {
		return made{}, api.ErrPath
	}
	for i, s := range way {
		if len(plainTold(x.tree, s, x.skip)) != len(x.u.Steps[i].Boxes) {
			return made{}, api.ErrPath
		}
	}
	for i, s := range way {
		for at, number := range plainTold(x.tree, s, x.skip) {
			for _, own := range x.mine {
				if own.Node == number {
					secret, err := box.Receive(own.Dk, x.info, numberBytes(number), x.u.Steps[i].Boxes[at])
					if err != api.OK {
						return made{}, err
					}
					return plainFrom(t, x, i, secret)
				}
			}
		}
	}
	return made{}, api.ErrMine
}

// plainFrom is what one takes who knows the secret of a step.
func plainFrom(t *testing.T, x taking, from int, secret []byte) (made, api.Errno) {
	t.Helper()
	way := plainWay(x.tree, x.leaf)
	secrets := plainSecrets(secret, len(way)-from+1)
	out := made{tree: plainLaid(x.tree, x.leaf, x.u), own: plainKept(x.tree, x.leaf, x.mine), commit: secrets[len(way)-from]}
	for i, s := range way[from:] {
		keys := plainKeys(t, secrets[i])
		if !bytes.Equal(keys.ek, x.u.Steps[from+i].Ek) {
			return made{}, api.ErrPath
		}
		out.own = append(out.own, api.Own{Node: s.over.Number(), Dk: keys.dk})
	}
	out.own = plainSorted(out.own)
	return out, api.OK
}
