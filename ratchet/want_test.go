package ratchet_test

import (
	"bytes"
	"testing"

	"sodality/api"
	"sodality/ratchet"
	"sodality/trial"
)

func wantGen(t *testing.T, what string, got, want int64) {
	t.Helper()
	if got != want {
		t.Fatalf("%s: got %d, want %d", what, got, want)
	}
}

// wantRatchet ends a test that got another one. A list that is nil, and one that is empty, are alike.
func wantRatchet(t *testing.T, what string, got, want api.Ratchet) {
	t.Helper()
	wantGen(t, what+", Gen", got.Gen, want.Gen)
	trial.WantBytes(t, what+", Secret", got.Secret, want.Secret)
	trial.WantNumber(t, what+", how many Kept", len(got.Kept), len(want.Kept))
	for i, k := range got.Kept {
		wantGen(t, what+", Kept's Gen", k.Gen, want.Kept[i].Gen)
		trial.WantBytes(t, what+", Kept's Key", k.Key, want.Kept[i].Key)
	}
}

func wantUnlike(t *testing.T, what string, got, other []byte) {
	t.Helper()
	if bytes.Equal(got, other) {
		t.Fatalf("%s: %x is alike", what, got)
	}
}

func wantRight(t *testing.T, what string, r api.Ratchet, want bool) {
	t.Helper()
	if got := ratchet.Right(r); got != want || plainRight(r) != want {
		t.Fatalf("%s: Right of %v is %v and %v, want %v", what, r, got, plainRight(r), want)
	}
}

// wantSecret, wantNext and wantTaken end a test whose answer is another one than in the other way; they answer it.
func wantSecret(t *testing.T, encrypt []byte, deep, leaf int) []byte {
	t.Helper()
	got := ratchet.Secret(encrypt, deep, leaf)
	trial.WantBytes(t, "Secret", got, plainSecret(encrypt, deep, leaf))
	trial.WantNumber(t, "a secret's bytes", len(got), 32)
	return got
}

func wantNext(t *testing.T, r api.Ratchet) (api.Ratchet, []byte) {
	t.Helper()
	next, gen, key, err := ratchet.Next(r)
	trial.WantErr(t, "Next", err, api.OK)
	wantGen(t, "Next's number", gen, r.Gen)
	trial.WantBytes(t, "Next's key", key, plainKey(r.Secret, r.Gen))
	wantRatchet(t, "Next", next, api.Ratchet{Gen: r.Gen + 1, Secret: plainBehind(r.Secret, r.Gen), Kept: r.Kept})
	wantRight(t, "Next", next, true)
	return next, key
}

func wantTaken(t *testing.T, r api.Ratchet, gen int64) (api.Ratchet, []byte) {
	t.Helper()
	got, key, err := ratchet.Take(r, gen)
	trial.WantErr(t, "Take", err, api.OK)
	want, wantKey := plainTaken(r, gen)
	trial.WantBytes(t, "Take's key", key, wantKey)
	wantRatchet(t, "Take", got, want)
	wantRight(t, "Take", got, true)
	return got, key
}

// wantNoNext and wantNotTaken end a test that got another error, or something that is not zero beside it.
func wantNoNext(t *testing.T, what string, r api.Ratchet, want api.Errno) {
	t.Helper()
	next, gen, key, err := ratchet.Next(r)
	trial.WantErr(t, what+", Next", err, want)
	wantGen(t, what+", Next's number", gen, 0)
	trial.WantBytes(t, what+", Next's key", key, nil)
	wantRatchet(t, what+", Next", next, api.Ratchet{})
}

func wantNotTaken(t *testing.T, what string, r api.Ratchet, gen int64, want api.Errno) {
	t.Helper()
	got, key, err := ratchet.Take(r, gen)
	trial.WantErr(t, what+", Take", err, want)
	trial.WantBytes(t, what+", Take's key", key, nil)
	wantRatchet(t, what+", Take", got, api.Ratchet{})
}

// wantTold is for a right ratchet: its number is taken, or refused as it should be.
func wantTold(t *testing.T, r api.Ratchet, gen int64) {
	t.Helper()
	if err := plainErr(r, gen); err != api.OK {
		wantNotTaken(t, "what is refused", r, gen, err)
		return
	}
	wantTaken(t, r, gen)
}
