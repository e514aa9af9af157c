package box_test

import (
	"testing"

	"sodality/api"
	"sodality/box"
	"sodality/mlkem"
	"sodality/trial"
)

// wantClosed is a text, closed as it is closed in the other way, and opened as it was; it answers what was closed.
func wantClosed(t *testing.T, key, ahead, text []byte) []byte {
	t.Helper()
	closed, err := box.Close(key, ahead, text)
	trial.WantErr(t, "Close", err, api.OK)
	trial.WantBytes(t, "Close", closed, plainClose(key, ahead, text))
	wantLonger(t, "closed", closed, text, 32)
	wantOpened(t, key, ahead, closed, text)
	return closed
}

func wantOpened(t *testing.T, key, ahead, closed, want []byte) {
	t.Helper()
	text, err := box.Open(key, ahead, closed)
	trial.WantErr(t, "Open", err, api.OK)
	trial.WantBytes(t, "Open", text, want)
}

func wantLonger(t *testing.T, what string, got, text []byte, more int) {
	t.Helper()
	if len(got) != len(text)+more {
		t.Fatalf("%s: %d bytes of a text of %d", what, len(got), len(text))
	}
}

// wantNotClosed, wantNotOpened, wantNotSent and wantNotReceived end a test if a call answers another error, or something beside it.
func wantNotClosed(t *testing.T, what string, key, ahead, text []byte, want api.Errno) {
	t.Helper()
	b, err := box.Close(key, ahead, text)
	trial.WantErr(t, "Close, "+what, err, want)
	trial.WantBytes(t, "Close, "+what, b, nil)
}

func wantNotOpened(t *testing.T, what string, key, ahead, closed []byte, want api.Errno) {
	t.Helper()
	b, err := box.Open(key, ahead, closed)
	trial.WantErr(t, "Open, "+what, err, want)
	trial.WantBytes(t, "Open, "+what, b, nil)
}

func wantNotSent(t *testing.T, what string, ek, info, ahead, text, m []byte, want api.Errno) {
	t.Helper()
	b, err := box.Send(ek, info, ahead, text, m)
	trial.WantErr(t, "Send, "+what, err, want)
	trial.WantBytes(t, "Send, "+what, b, nil)
}

func wantNotReceived(t *testing.T, what string, dk, info, ahead, sent []byte, want api.Errno) {
	t.Helper()
	b, err := box.Receive(dk, info, ahead, sent)
	trial.WantErr(t, "Receive, "+what, err, want)
	trial.WantBytes(t, "Receive, "+what, b, nil)
}

// wantToldOpen ends a test if bytes are opened to something else than in the other way; it answers whether they were opened.
func wantToldOpen(t *testing.T, key, ahead, closed []byte) bool {
	t.Helper()
	text, err := box.Open(key, ahead, closed)
	want, wantErr := plainOpen(key, ahead, closed)
	trial.WantErr(t, "Open", err, wantErr)
	trial.WantBytes(t, "Open", text, want)
	return err == api.OK
}

// pair is both of mlkem's keys, with what they are made of.
type pair struct{ d, z, ek, dk []byte }

func pairOf(t *testing.T, d, z []byte) pair {
	t.Helper()
	ek, dk, err := mlkem.Keys(d, z)
	trial.WantErr(t, "mlkem.Keys", err, api.OK)
	return pair{d, z, ek, dk}
}

// ordinary are keys of seeds that look like any others, which and which.
func ordinary(t *testing.T, which int) pair {
	t.Helper()
	return pairOf(t, trial.Ordinary(32, 2*which), trial.Ordinary(32, 2*which+1))
}

// wantSent is a text, sent as it is sent in the other way, and received as it was; it answers what was sent.
func wantSent(t *testing.T, p pair, info, ahead, text, m []byte) []byte {
	t.Helper()
	sent, err := box.Send(p.ek, info, ahead, text, m)
	trial.WantErr(t, "Send", err, api.OK)
	trial.WantBytes(t, "Send", sent, plainSend(t, p.ek, info, ahead, text, m))
	wantLonger(t, "sent", sent, text, 1120)
	wantReceived(t, p, info, ahead, sent, text)
	return sent
}

func wantReceived(t *testing.T, p pair, info, ahead, sent, want []byte) {
	t.Helper()
	text, err := box.Receive(p.dk, info, ahead, sent)
	trial.WantErr(t, "Receive", err, api.OK)
	trial.WantBytes(t, "Receive", text, want)
}

// wantToldReceive ends a test if bytes, at least mlkem's, are received otherwise than in the other way; it answers whether they were received.
func wantToldReceive(t *testing.T, p pair, info, ahead, sent []byte) bool {
	t.Helper()
	text, err := box.Receive(p.dk, info, ahead, sent)
	key := plainKeyOf(plainSecret(t, p.d, p.z, sent[:1088]), info)
	want, wantErr := plainOpen(key, ahead, sent[1088:])
	trial.WantErr(t, "Receive", err, wantErr)
	trial.WantBytes(t, "Receive", text, want)
	return err == api.OK
}
