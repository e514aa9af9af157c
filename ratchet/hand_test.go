package ratchet_test

import (
	"testing"

	"sodality/api"
	"sodality/ratchet"
	"sodality/trial"
)

// P17.1 (V1): what was told by other means, written out.
func TestSecretsByHand(t *testing.T) {
	for _, x := range []struct {
		deep, leaf int
		want       string
	}{
		{0, 0, "000102030405060708090a0b0c0d0e0f101112131415161718191a1b1c1d1e1f"},
		{1, 0, "d4b655dca5ce1f27124b922c318f3d099777fe4aa931f165c908252c1abc6d83"},
		{1, 1, "f3bbfd86b6c92247b33a5992c4bebd983cd37b4676e88aa5ebf475669896b08c"},
		{2, 2, "1af3df7f7dbd6acd0fcd04091b3a7bd6e26969a6f85bd1884b6794594c736aa3"},
		{3, 5, "87f5697530aff170fd201e8e3659830e81c76e01b572a3fab32d5a03817229e0"},
		{6, 0, "1426ff74853c8312608aef967e9e30252fe0c4bf20e2783394a44d43aff4ddfc"},
		{6, 63, "4456df77150355dcc71bc3f0964fa4dbe71855b6b3c3acd3d4f2696144c86921"},
		{16, 43690, "805b8fb07f979d4676e4fc8cc656f28087652c5128cfccd2cd154fd752e8a54b"},
	} {
		trial.WantHex(t, "Secret", ratchet.Secret(trial.Counted(32), x.deep, x.leaf), x.want)
	}
}

// rowByHand are the first keys of the ratchet of a tree of depth 2, and the secrets behind them.
func rowByHand() (keys, behind []string) {
	return []string{
		"620f074331b437c699ec4a996e6432f369226f41a7168fdf4f18bbba68e82632",
		"01e966c10237ca200bb520cee8683196c9a6cc4a7ce4b2e766454ae19b7eb88b",
		"6f05c1d66010135cac110f2d5757b30744ec7d88a00478e51dd9c7f416029138",
		"8bfb3b7fc9bd3c87ff916b73b35ff8d68dcaf99b35fcaa52cfb30b2ccc87bf2b",
	}, []string{
		"023da839d783dcaaf804b83c1b9926cdbc8bc693df361eb78638d6b78045bb11",
		"1df2c4b39ebf04284484f3536869c4d7d924f6f26ff4ff2ac3d6c51a016218ff",
		"78cf6202e75a70c95ba0c9d8853101cadedda07d231142d99a722b150ed2c9b6",
		"3c0b5e9765827cc9d04386a96cde22956a060728e83bbaed044e717cea291d4a",
	}
}

// P17.1 (V2, V3): likewise.
func TestRowByHand(t *testing.T) {
	keys, behind := rowByHand()
	first := ratchet.New(ratchet.Secret(trial.Counted(32), 2, 2))
	r := first
	for i, want := range keys {
		next, gen, key, _ := ratchet.Next(r)
		wantGen(t, "Next's number", gen, int64(i))
		trial.WantHex(t, "Next's key", key, want)
		trial.WantHex(t, "the secret behind", next.Secret, behind[i])
		r = next
	}
	r, key, _ := ratchet.Take(first, 3)
	trial.WantHex(t, "Take's key", key, keys[3])
	trial.WantHex(t, "the secret behind", r.Secret, behind[3])
	for _, gen := range []int64{1, 0, 2} {
		got, key, _ := ratchet.Take(r, gen)
		trial.WantHex(t, "Take's key", key, keys[gen])
		r = got
	}
}

// P17.1 (V2, V3): numbers of two bytes and more.
func TestGreatNumbersByHand(t *testing.T) {
	for _, x := range []struct {
		gen         int64
		key, behind string
	}{
		{255, "dfe41ef6ecb78fa7e0f7440c59642fc9fea12efd78dbd4b7e2ab28438354f069", "669303b9614154606d6d9055ab42b34c3eaf8a114a0dc10828085dabf52d2358"},
		{256, "d826cf286a8e20eac3edd761e45c256bacf7cd2a45a71d198ef98c859f22402a", "56d6c8aeb2ece873d570e11c03b93d0e0efabed88c42e6afe07c0850fa2ea8bd"},
		{65536, "c23030b5f36175ae22bc6169a86e0d192f125431ba001c6ebdafdeff3ac03e89", "74fe7662ae9c87a3a55b5fb5ec36274eafef0ea8c504807990c21e445f830c0f"},
		{1 << 24, "eeaf66c6c410ad6402c40ac499eaf143ff156f7e218e932ade9d86cf50c7711a", "d86eac127cea7edfa31a120da4fb8802cc21560a2ddbb055e327e111bfc54aa5"},
		{maxGen - 1, "8026ac77c3c375c7c9ffc54f0637c0a775328e71935f63f284daa77d6f06f364", "a7fef46b04ae7b6683206c904db98d7f2b139326e63d59484ec2f4bf9d92862c"},
	} {
		r := api.Ratchet{Gen: x.gen, Secret: trial.Counted(32)}
		next, _, nextKey, _ := ratchet.Next(r)
		got, gotKey, _ := ratchet.Take(r, x.gen)
		trial.WantHex(t, "Next's key", nextKey, x.key)
		trial.WantHex(t, "Take's key", gotKey, x.key)
		trial.WantHex(t, "Next's secret", next.Secret, x.behind)
		trial.WantHex(t, "Take's secret", got.Secret, x.behind)
	}
}
