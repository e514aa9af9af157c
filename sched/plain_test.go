package sched_test

import (
	"crypto/hkdf"
	"crypto/sha256"
	"encoding/binary"
	"slices"

	"sodality/api"
	"sodality/trial"
)

// What follows tells the chapter's words in another way, with the language's own HKDF and SHA-256.
func plainSum(parts ...[]byte) []byte {
	sum := sha256.Sum256(trial.Joined(parts...))
	return sum[:]
}

// plainShort is what a text counts as.
func plainShort(b []byte) []byte {
	if len(b) < 16001 {
		return b
	}
	return plainSum(b)
}

func plainExtract(salt, secret []byte) []byte {
	b, err := hkdf.Extract(sha256.New, secret, salt)
	if err != nil {
		panic(err)
	}
	return b
}

func plainText(s []byte) []byte {
	var length []byte
	switch n := len(s); {
	case n < 64:
		length = []byte{byte(n)}
	case n < 16384:
		length = binary.BigEndian.AppendUint16(nil, uint16(16384+n))
	default:
		length = binary.BigEndian.AppendUint32(nil, uint32(1<<31+n))
	}
	return trial.Joined(length, s)
}

// plainLabel names whatever it is handed: a label or a context too long, too.
func plainLabel(secret []byte, label string, context []byte, n int) []byte {
	info := trial.Joined(binary.BigEndian.AppendUint16(nil, uint16(n)), plainText([]byte("GKA 1.0 "+label)), plainText(context))
	b, err := hkdf.Expand(sha256.New, secret, string(info), n)
	if err != nil {
		panic(err)
	}
	return b
}

func plainJoiner(init, commit, context []byte) []byte {
	return plainLabel(plainExtract(plainShort(init), plainShort(commit)), "joiner", plainShort(context), 32)
}

func plainDerive(joiner, context []byte) api.Epoch {
	first := plainExtract(plainShort(joiner), make([]byte, 32))
	secret := plainLabel(first, "epoch", plainShort(context), 32)
	named := func(name string) []byte { return plainLabel(secret, name, nil, 32) }
	return api.Epoch{
		Welcome: plainLabel(first, "welcome", nil, 32), Secret: secret,
		Encrypt: named("encrypt"), Export: named("export"), Confirm: named("confirm"), Member: named("member"), Init: named("init"),
	}
}

// plainBoth is what Confirmed and Interim are.
func plainBoth(a, b []byte) []byte {
	return plainSum(plainText(plainShort(a)), plainText(plainShort(b)))
}

func plainExport(export []byte, label string, context []byte, n int) []byte {
	if len(label) > 40 || n < 0 || n > 8160 {
		return nil
	}
	return plainLabel(plainLabel(plainShort(export), label, nil, 32), "exported", plainSum(plainShort(context)), n)
}

// keysOf are an epoch's, as they stand.
func keysOf(k api.Epoch) [][]byte {
	return [][]byte{k.Welcome, k.Secret, k.Encrypt, k.Export, k.Confirm, k.Member, k.Init}
}

func names() []string {
	return []string{"Welcome", "Secret", "Encrypt", "Export", "Confirm", "Member", "Init"}
}

// copied shares no memory with an epoch.
func copied(k api.Epoch) api.Epoch {
	for _, b := range placesOf(&k) {
		*b = slices.Clone(*b)
	}
	return k
}

func placesOf(k *api.Epoch) []*[]byte {
	return []*[]byte{&k.Welcome, &k.Secret, &k.Encrypt, &k.Export, &k.Confirm, &k.Member, &k.Init}
}
