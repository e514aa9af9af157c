package path

import (
	"bytes"
	"slices"

	"sodality/api"
	"sodality/box"
	"sodality/hkdf"
	"sodality/wire"
)

const numberBytes = 4

// updateOf is the path of a leaf's link and those of the places above it, with boxes as they are made at each.
func updateOf(links []link, way []place, boxes func(p place, secret []byte) ([][]byte, api.Errno)) (api.Update, api.Errno) {
	u := api.Update{Ek: links[0].ek}
	for i, l := range links[1:] {
		made, err := boxes(way[i], l.secret)
		if err != api.OK {
			return api.Update{}, err
		}
		u.Steps = append(u.Steps, api.Step{Ek: l.ek, Boxes: made})
	}
	return u, api.OK
}

// boxesIn makes the boxes of a place: its secret, closed for each who is told there.
func boxesIn(t api.Tree, told func(p place) []int, info []byte) func(p place, secret []byte) ([][]byte, api.Errno) {
	return func(p place, secret []byte) ([][]byte, api.Errno) {
		var out [][]byte
		for _, number := range told(p) {
			ahead := aheadOf(number)
			coins := hkdf.Label(secret, "coins", ahead, api.Seed)
			sent, err := box.Send(t.Nodes[number].Ek, info, ahead, secret, coins)
			if err != api.OK {
				return nil, err
			}
			out = append(out, sent)
		}
		return out, api.OK
	}
}

// aheadOf is what stands ahead in a node's box, so that it is opened as that node's alone.
func aheadOf(number int) []byte { return wire.Number(int64(number), numberBytes) }

// mark says which box one can open: at which place, of whom, the how manieth there, and by which key.
type mark struct {
	place, number, box int
	dk                 []byte
}

// firstOf is the first mark for one who has those keys; there may be none.
func firstOf(way []place, told func(p place) []int, mine []api.Own) (mark, bool) {
	for i, p := range way {
		for at, number := range told(p) {
			isOf := func(own api.Own) bool { return own.Node == number }
			if k := slices.IndexFunc(mine, isOf); k >= 0 {
				return mark{i, number, at, mine[k].Dk}, true
			}
		}
	}
	return mark{}, false
}

// opened has the links from the place of the mark on, and the commit's secret. The steps' keys must be those of the links: else others would close for keys that nobody has.
func (m mark) opened(u api.Update, way []place, info []byte) ([]link, []byte, api.Errno) {
	steps := u.Steps[m.place:]
	secret, err := box.Receive(m.dk, info, aheadOf(m.number), steps[0].Boxes[m.box])
	if err != api.OK {
		return nil, nil, err
	}
	links, commit, err := chain(numbers(way[m.place:]), secret)
	if err != api.OK {
		return nil, nil, err
	}
	for i, l := range links {
		if !bytes.Equal(l.ek, steps[i].Ek) {
			return nil, nil, api.ErrPath
		}
	}
	return links, commit, api.OK
}
