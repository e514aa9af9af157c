package path

import (
	"cmp"
	"iter"
	"slices"

	"sodality/api"
	"sodality/hkdf"
	"sodality/mlkem"
	"sodality/spot"
)

const secretBytes = 32

// secrets tells a secret, and those behind it, each made of the one ahead of it when it is asked for.
func secrets(first []byte) iter.Seq[[]byte] {
	return func(yield func([]byte) bool) {
		for secret := first; yield(secret); {
			secret = hkdf.Label(secret, "path", nil, secretBytes)
		}
	}
}

// link is a node's secret, and the keys of that.
type link struct {
	number         int
	secret, ek, dk []byte
}

func linkOf(number int, secret []byte) (link, api.Errno) {
	d := hkdf.Label(secret, "node d", nil, api.Seed)
	z := hkdf.Label(secret, "node z", nil, api.Seed)
	ek, dk, err := mlkem.Keys(d, z)
	return link{number, secret, ek, dk}, err
}

// chain has links for those nodes, one behind the other from the first one's secret on, and the secret behind them all.
func chain(nodes []int, first []byte) (links []link, behind []byte, err api.Errno) {
	for secret := range secrets(first) {
		if len(links) == len(nodes) {
			behind = secret
			break
		}
		l, err := linkOf(nodes[len(links)], secret)
		if err != api.OK {
			return nil, nil, err
		}
		links = append(links, l)
	}
	return links, behind, api.OK
}

func keysOf(links []link) []api.Own {
	var out []api.Own
	for _, l := range links {
		out = append(out, api.Own{Node: l.number, Dk: l.dk})
	}
	return out
}

// keptOf are those of one's keys that a path of the leaf leaves as they are, in new memory.
func keptOf(t api.Tree, leaf int, mine []api.Own) []api.Own {
	isOver := func(number int) bool {
		return number >= 0 && number < len(t.Nodes) && spot.Over(spot.At(number), leaf)
	}
	var out []api.Own
	for _, own := range mine {
		if !isOver(own.Node) {
			out = append(out, api.Own{Node: own.Node, Dk: slices.Clone(own.Dk)})
		}
	}
	return out
}

// byNumber sorts keys in their place, and leaves those of one node in the order in which they came.
func byNumber(own []api.Own) []api.Own {
	slices.SortStableFunc(own, func(a, b api.Own) int { return cmp.Compare(a.Node, b.Node) })
	return own
}
