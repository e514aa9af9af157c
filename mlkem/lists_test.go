package mlkem_test

import (
	"testing"

	"sodality/mlkem"
	"sodality/trial"
)

func calls(t *testing.T) trial.Calls {
	ek, dk := ordinary(t)
	seed := dk[2368:]
	_, c := closed(t, ek, seed)
	open := func(b [][]byte) [][]byte {
		secret, _ := mlkem.Open(b[0], b[1])
		return [][]byte{secret}
	}
	return trial.Calls{
		{Name: "Keys", Take: [][]byte{seed, ek[:32]}, Do: func(b [][]byte) [][]byte {
			ek, dk, _ := mlkem.Keys(b[0], b[1])
			return [][]byte{ek, dk}
		}},
		{Name: "RightClose", Take: [][]byte{ek}, Do: func(b [][]byte) [][]byte { return trial.Truth(mlkem.RightClose(b[0])) }},
		{Name: "RightOpen", Take: [][]byte{dk}, Do: func(b [][]byte) [][]byte { return trial.Truth(mlkem.RightOpen(b[0])) }},
		{Name: "Close", Take: [][]byte{ek, seed}, Do: func(b [][]byte) [][]byte {
			secret, c, _ := mlkem.Close(b[0], b[1])
			return [][]byte{secret, c}
		}},
		{Name: "Open", Take: [][]byte{dk, c}, Do: open},
		{Name: "Open of what nobody closed", Take: [][]byte{dk, trial.Changed(c, 5, 1)}, Do: open},
		{Name: "Open with a wrong key", Take: [][]byte{trial.Changed(dk, 2340, 1), c}, Do: open},
	}
}

// P3: lists that are handed in are neither changed nor kept, nor is their spare room, with an answer as with an error.
func TestListsHandedIn(t *testing.T) {
	calls(t).WantLent(t)
}

// P3: lists that come out are new memory, their spare room too; to change one changes no other one, and no later answer.
func TestListsThatComeOut(t *testing.T) {
	calls(t).WantNew(t)
}

// P3: coins are a secret of their own; there is nothing of them in the room behind the one that comes out.
func TestNoRoomBehindTheSecret(t *testing.T) {
	ek, dk := ordinary(t)
	secret, c := closed(t, ek, make([]byte, 32))
	for _, s := range [][]byte{secret, opened(t, dk, c)} {
		if cap(s) != 32 {
			t.Errorf("a secret has %d bytes of room", cap(s))
		}
	}
}

// P3: one list may be handed in for two, or be a piece of another.
func TestOneListForTwo(t *testing.T) {
	seed := make([]byte, 32)
	ek, dk := keysOf(t, seed, seed)
	m := ek[:32]
	secret, c := closed(t, ek, m)
	wantSecret, wantC := closed(t, trial.Joined(ek), trial.Joined(m))
	trial.WantBytes(t, "the secret", secret, wantSecret)
	trial.WantBytes(t, "the text", c, wantC)
	trial.WantBytes(t, "the secret of a piece of the key", opened(t, dk, dk[:1088]), plainTurnedDown(dk, dk[:1088]))
}
