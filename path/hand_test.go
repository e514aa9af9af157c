package path_test

import (
	"bytes"
	"crypto/sha256"
	"testing"

	"sodality/api"
	"sodality/rtree"
	"sodality/trial"
)

func wantSum(t *testing.T, what string, got []byte, want string) {
	t.Helper()
	sum := sha256.Sum256(got)
	trial.WantHex(t, what, sum[:], want)
}

// P15.1 (U2): what was told by other means, written out: the sums of keys and boxes, and what is short itself.
func TestPathByHand(t *testing.T) {
	by := wantMade(t, making{keyed(trial.BaseTree()), 0, nil, trial.Counted(32), []byte("info")})
	trial.WantHex(t, "the commit's secret", by.commit, "d79d7422879077c4fdfe4e16ff38177c40f15634571ec314bbc7ecb3f30f3ef7")
	wantSum(t, "the leaf's Ek", by.u.Ek, "7e2f904e04849b33b758747de4689fa5e1854f6cbad1e0ead61ee3785b63826b")
	wantSum(t, "the first step's Ek", by.u.Steps[0].Ek, "30965967df94042090394760c9b9f0acb6bbf0dbaef92b3ca4f5a1a0a6d00bfc")
	wantSum(t, "the first step's box", by.u.Steps[0].Boxes[0], "51498a389685a181111a7a76dada6a67150a227cae7debd62af5957b76eca7f9")
	wantSum(t, "the second step's Ek", by.u.Steps[1].Ek, "e20502d58578455243ec2e80bd80ae608bdd9c34466cc301bfb082765ddabfb9")
	wantSum(t, "the second step's box", by.u.Steps[1].Boxes[0], "2e47e3e33d3e8aaae6d84bfd465178c149bb852915e123b0d519863cc4e7664a")
	trial.WantHex(t, "the first node's Above", by.tree.Nodes[1].Above, "9a77dc585d723a5c2965d262eba4050244c8b335a83df62e1d5e2ac8e8b2b53c")
	trial.WantHex(t, "the leaf's Above", by.tree.Nodes[0].Above, "d4049c32e9a058cd31cdad2b5ca57a59255ca5d904f5fb48050d6d638634a2be")
	trial.WantHex(t, "the tree's sum", rtree.Sum(by.tree, 2), "d275034781b7069d1a521b9ba5308f5474271f26677e61ef788f417e187024c0")
	trial.WantNumbers(t, "whose keys", []int{by.own[0].Node, by.own[1].Node, by.own[2].Node}, []int{0, 1, 3})
}

// P15.1 (U2): likewise of a leaf beside which nothing is, by two who are told at one step.
func TestShortPathByHand(t *testing.T) {
	m := making{keyed(trial.BaseTree()), 3, nil, trial.Counted(32), []byte("info")}
	by := wantMade(t, m)
	trial.WantHex(t, "the commit's secret", by.commit, "baeb22377078e8f6afa709ffcc18558f74dd018f5450b7db15baf7699e23556c")
	wantSum(t, "the first box", by.u.Steps[0].Boxes[0], "c1ae5ac2aeef62f150d746b11590223737edeae354360662b921effa89fd674a")
	wantSum(t, "the second box", by.u.Steps[0].Boxes[1], "51498a389685a181111a7a76dada6a67150a227cae7debd62af5957b76eca7f9")
	trial.WantHex(t, "the leaf's Above", by.tree.Nodes[6].Above, "b41f4b08b84ddde530dadcb216e91aeea7e5d8d295a17bbb6fbfa1f54643520d")
	trial.WantHex(t, "the tree's sum", rtree.Sum(by.tree, 2), "297b24f70e891e4b55b388b32b1785b7c088ed25e92612123e68d7675d78d73e")
	trial.WantNumbers(t, "whose keys", []int{by.own[0].Node, by.own[1].Node}, []int{3, 6})
	got, err := m.taken(by.u, own(1)).take()
	trial.WantErr(t, "Take", err, api.OK)
	trial.WantHex(t, "the secret that is taken", got.commit, "baeb22377078e8f6afa709ffcc18558f74dd018f5450b7db15baf7699e23556c")
	if !bytes.Equal(got.own[0].Dk, own(1).Dk) {
		t.Error("the taker's own key is another one")
	}
}

// P15.1 (U2): a leaf alone.
func TestPathOfOneByHand(t *testing.T) {
	by := wantMade(t, making{keyed(trial.TreeOf(0, 0)), 0, nil, trial.Counted(32), nil})
	trial.WantHex(t, "the commit's secret", by.commit, "04bf1bb6627cd51991a26080e450392528937f054a72b38c9801d1764f22c23f")
	wantSum(t, "the leaf's Ek", by.u.Ek, "7e2f904e04849b33b758747de4689fa5e1854f6cbad1e0ead61ee3785b63826b")
}
