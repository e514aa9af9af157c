package box_test

import (
	"bytes"
	"crypto/hmac"
	theirs "crypto/mlkem"
	"crypto/mlkem/mlkemtest"
	"crypto/sha256"
	"crypto/sha3"
	"crypto/subtle"
	"encoding/binary"
	"testing"

	"sodality/api"
	"sodality/trial"
)

const (
	maxSeal = 32768
	maxInfo = 10000
)

// What follows tells the chapter's words in another way, with the language's own HMAC, SHA-3 and ML-KEM.
func plainMac(key []byte, parts ...[]byte) []byte {
	h := hmac.New(sha256.New, key)
	h.Write(trial.Joined(parts...))
	return h.Sum(nil)
}

func plainText(s []byte) []byte {
	var length []byte
	switch n := len(s); {
	case n < 64:
		length = []byte{byte(n)}
	case n < 16384:
		length = binary.BigEndian.AppendUint16(nil, uint16(16384+n))
	default:
		length = binary.BigEndian.AppendUint32(nil, uint32(1<<31+n))
	}
	return trial.Joined(length, s)
}

// plainLabel is a key of 32 bytes, the one piece that there is of it.
func plainLabel(key []byte, label string, context []byte) []byte {
	return plainMac(key, []byte{0, 32}, plainText([]byte("GKA 1.0 "+label)), plainText(context), []byte{1})
}

func plainCrossed(key, b []byte) []byte {
	out := sha3.SumSHAKE256(plainLabel(key, "stream", nil), len(b))
	subtle.XORBytes(out, out, b)
	return out
}

func plainTag(key, ahead, hidden []byte) []byte {
	return plainMac(plainLabel(key, "tag", nil), plainText(ahead), hidden)
}

// plainClose closes whatever it is handed, of any length.
func plainClose(key, ahead, text []byte) []byte {
	hidden := plainCrossed(key, text)
	return trial.Joined(hidden, plainTag(key, ahead, hidden))
}

func plainOpen(key, ahead, closed []byte) ([]byte, api.Errno) {
	switch {
	case len(key) != 32:
		return nil, api.ErrArg
	case len(ahead) > maxSeal, len(closed) > maxSeal+32:
		return nil, api.ErrTooMany
	case len(closed) < 32:
		return nil, api.ErrTag
	}
	hidden := closed[:len(closed)-32]
	if !bytes.HasSuffix(closed, plainTag(key, ahead, hidden)) {
		return nil, api.ErrTag
	}
	return plainCrossed(key, hidden), api.OK
}

// plainKeyOf is what mlkem's secret and an info make.
func plainKeyOf(secret, info []byte) []byte {
	return plainLabel(plainMac(nil, secret), "box", info)
}

// plainSend closes whatever it is handed, of any length, for a key that is right.
func plainSend(t *testing.T, ek, info, ahead, text, m []byte) []byte {
	t.Helper()
	key, err := theirs.NewEncapsulationKey768(ek)
	if err != nil {
		t.Fatal(err)
	}
	secret, told, err := mlkemtest.Encapsulate768(key, m)
	if err != nil {
		t.Fatal(err)
	}
	return trial.Joined(told, plainClose(plainKeyOf(secret, info), ahead, text))
}

// plainSecret is that of mlkem's text for a key of two seeds, whoever closed it.
func plainSecret(t *testing.T, d, z, told []byte) []byte {
	t.Helper()
	key, err := theirs.NewDecapsulationKey768(trial.Joined(d, z))
	if err != nil {
		t.Fatal(err)
	}
	secret, err := key.Decapsulate(told)
	if err != nil {
		t.Fatal(err)
	}
	return secret
}
