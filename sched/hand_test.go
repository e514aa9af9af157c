package sched_test

import (
	"testing"

	"sodality/api"
	"sodality/sched"
	"sodality/trial"
)

// P16.1 (C1): what was told by other means, written out.
func TestJoinerByHand(t *testing.T) {
	trial.WantHex(t, "of words", sched.Joiner([]byte("init"), []byte("commit"), []byte("context")), "f3204b30eac8cc8578cb8b512010b8eaffbabb74357e8bc33724e0f695ce1d67")
	trial.WantHex(t, "of nothing", sched.Joiner(nil, nil, nil), "ccfa091331c1e59024fa34cb9c591a6f84388aaefebbd8aa77992d3840285d92")
	trial.WantHex(t, "of as much as stands for itself", sched.Joiner(trial.Counted(16000), trial.Counted(16000), trial.Counted(16000)), "7bbb142b94718ebcf605d416481065ce5f64d6139e143a1b08ef1b7ff5894320")
	trial.WantHex(t, "of more", sched.Joiner(trial.Counted(16001), trial.Counted(16002), trial.Counted(16003)), "3b241b637b559299a4e3b34e51311b3e876ac28713c6658c1a8d510267b6e529")
}

// P16.1 (C2): likewise.
func TestKeysByHand(t *testing.T) {
	for _, x := range []struct {
		joiner, context []byte
		want            [7]string
	}{
		{trial.Counted(32), []byte("context"), [7]string{
			"4edb9b59fb22fc3ea8605196ab77af1fb9bcbeb25b0b9c0e6ce2352e2284bcc8",
			"9457c3ff1a1adb4b0456df962489c3abe7f7e5501bfd770b6c77d35eb78278fb",
			"4d1bd92a5f52f89851506f436b3be3f4d0ae46b4a5041abd8b772accaa270b08",
			"6668dbefad7c4d6601b8cf6ed8c416c810288533cbb83a549d31e5020d96286b",
			"294a8cc812892f06eb38c050263fc381402695f2a048c35dfd937a8fd26d9f8c",
			"8891a80b1b65571d65796e4638df2be07815c72f13f71675f03e16f935b1da9e",
			"3dd9a0b5388da4691e54216b9a51e4fefd80cd07e230b4e1cfe48f7aee8201db",
		}},
		{nil, nil, [7]string{
			"cfc0622b89607f4f71a8c33eee8f12a6d1031a60d38a1f69082ef0e10a5b380a",
			"4cc17402083cac4ba7e81f6a1db1bace29261edc36d850c69a46f486154109e4",
			"c9838b24354b59988921b32523de610012a68972fb6c884a9f2c667efece6bfc",
			"cbe6312f5a91e643a586a880ce2f39b343305c313a486257e4ba76f0165916e3",
			"c43c7fb5271b0624d48b265bf6c0e0dac89712f80c21906c459ff6ad205564b7",
			"dbcf4ce008c143af56aeb2fe7fc731306b2f33e19ccb5fd55cfd2c861de8cf5f",
			"65800bb666248e9438d2d3a16b4610268925d04d1cb2721cad23a8f2f1e48918",
		}},
		{trial.Counted(16001), trial.Counted(16002), [7]string{
			"fbeb7352151ac476dd578274027f50ce854a92488c09d8f4a3fc7910b83dc136",
			"c58b363391d2ecfdd556968086d740cd203909045983e534e4643b22b15b202d",
			"6008d9efe71e7c34976054f5f06707e2a60fb9835f69b321e1944f48685d4fc7",
			"a496a62b1e3faa149764c73c5d9aff3730a8059e896ba1b9d2cdcbb36972a061",
			"90628ecb235d31cbee9fdf2a7fb1c0821ee6007c5fda6a11eda3c22ccf02303a",
			"6ad10c24706d9e20780d0254894f57b5bab59de9420d9d1cf79e544e2dc153a0",
			"524ec46562f787ea17d479662c2c5a218686effd23109779fca9a418cf78c62e",
		}},
	} {
		k := sched.Derive(x.joiner, x.context)
		for i, want := range x.want {
			trial.WantHex(t, names()[i], keysOf(k)[i], want)
		}
	}
}

// P16.1 (C3): likewise.
func TestSumsByHand(t *testing.T) {
	for _, x := range []struct {
		first, second []byte
		want          string
	}{
		{[]byte("a"), []byte("bc"), "ea1cc672b17a5c99d273503a298965ef39b3616dfc46fb44022907c44f4e34fa"},
		{nil, nil, "96a296d224f285c67bee93c30f8a309157f0daa35dc5b87e410b78630a09cfc7"},
		{trial.Counted(63), trial.Counted(64), "a0446daa0a327d404ec617d8792584b5a56246f2db1e9009a16c30aa5b19c300"},
		{trial.Counted(16000), trial.Counted(16001), "98f665c39930251de7f3a77654f5ba496c16167ee5276d6ebeebbcfb2092f51c"},
		{trial.Counted(16383), trial.Counted(16384), "8ce148493e513d5b3901d83885afcbfaf01e74c650e8471da55b89e4cfb1f279"},
	} {
		trial.WantHex(t, "Confirmed", sched.Confirmed(x.first, x.second), x.want)
		trial.WantHex(t, "Interim", sched.Interim(x.first, x.second), x.want)
	}
}

// P16.1 (C4): likewise.
func TestExportByHand(t *testing.T) {
	k := api.Epoch{Export: trial.Counted(32)}
	trial.WantHex(t, "some", sched.Export(k, "voice", []byte("x"), 20), "953a194adaf7a0edb5f024bc4df3e1634ef9cc91")
	trial.WantHex(t, "one of nothing", sched.Export(api.Epoch{}, "", nil, 1), "f0")
	trial.WantHex(t, "as much as stands for itself", sched.Export(k, "llllllllllllllllllllllllllllllllllllllll", trial.Counted(16000), 33), "e19a706b23ebad5f0aef6fc079a39cf52c322df60853905dc93cdb5bd9d3713606")
	trial.WantHex(t, "more", sched.Export(api.Epoch{Export: trial.Counted(16001)}, "l", trial.Counted(16001), 32), "a5f80556c0757a8a3a9b3adcc3e920b6dad6da011fd3194e6227c356623bf0b9")
	trial.WantHex(t, "a label that is no UTF-8", sched.Export(k, "\xff\xfe\x00", nil, 32), "219cda211946e43356553f8d82832775988752f17bebb7ad7810b2273060a44f")
	trial.WantHex(t, "the sum of as many as there are", plainSum(sched.Export(k, "voice", []byte("x"), 8160)), "d1986f9150f3a7dca373ce5ab3afd86413e17d218eebda0e1494050f94f20886")
}
