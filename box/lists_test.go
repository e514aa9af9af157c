package box_test

import (
	"testing"

	"sodality/api"
	"sodality/box"
	"sodality/trial"
)

// told is an answer, and its error, as lists.
func told(b []byte, err api.Errno) [][]byte { return [][]byte{b, {byte(err)}} }

func closing(name string, key, ahead, text []byte) trial.Call {
	return trial.Call{Name: "Close " + name, Take: [][]byte{key, ahead, text}, Do: func(b [][]byte) [][]byte {
		return told(box.Close(b[0], b[1], b[2]))
	}}
}

func opening(name string, key, ahead, closed []byte) trial.Call {
	return trial.Call{Name: "Open " + name, Take: [][]byte{key, ahead, closed}, Do: func(b [][]byte) [][]byte {
		return told(box.Open(b[0], b[1], b[2]))
	}}
}

func sending(name string, ek, info, ahead, text, m []byte) trial.Call {
	return trial.Call{Name: "Send " + name, Take: [][]byte{ek, info, ahead, text, m}, Do: func(b [][]byte) [][]byte {
		return told(box.Send(b[0], b[1], b[2], b[3], b[4]))
	}}
}

func receiving(name string, dk, info, ahead, sent []byte) trial.Call {
	return trial.Call{Name: "Receive " + name, Take: [][]byte{dk, info, ahead, sent}, Do: func(b [][]byte) [][]byte {
		return told(box.Receive(b[0], b[1], b[2], b[3]))
	}}
}

func calls(t *testing.T) trial.Calls {
	p, key, m := ordinary(t, 25), trial.Ordinary(32, 70), trial.Ordinary(32, 71)
	info, ahead, text := trial.Ordinary(50, 72), trial.Ordinary(70, 73), trial.Ordinary(300, 74)
	closed := plainClose(key, ahead, text)
	sent := plainSend(t, p.ek, info, ahead, text, m)
	great := make([]byte, maxSeal+2)
	return trial.Calls{
		closing("a text", key, ahead, text),
		closing("nothing", key, []byte{}, []byte{}),
		closing("as much as may be", key, great[:maxSeal], great[:maxSeal]),
		closing("a text too long", key, ahead, great),
		closing("under a wrong key", key[1:], ahead, text),
		opening("what was closed", key, ahead, closed),
		opening("what was nothing", key, []byte{}, plainClose(key, nil, nil)),
		opening("what nobody closed", key, ahead, trial.Changed(closed, 7, 1)),
		opening("with too much ahead", key, great, closed),
		sending("a text", p.ek, info, ahead, text, m),
		sending("nothing", p.ek, []byte{}, []byte{}, []byte{}, m),
		sending("with a wrong key", tooGreat(p.ek, 0), info, ahead, text, m),
		sending("a text too long", p.ek, info, ahead, great, m),
		receiving("what was sent", p.dk, info, ahead, sent),
		receiving("what nobody sent", p.dk, info, ahead, trial.Changed(sent, 7, 1)),
		receiving("with a wrong tag", p.dk, info, ahead, trial.Changed(sent, len(sent)-1, 1)),
		receiving("with a wrong key", trial.Changed(p.dk, 2340, 1), info, ahead, sent),
		receiving("what is too short", p.dk, info, ahead, sent[:1087]),
	}
}

// P3: lists that are handed in are neither changed nor kept, nor is their spare room, with an answer as with an error.
func TestListsHandedIn(t *testing.T) {
	calls(t).WantLent(t)
}

// P3: lists that come out are new memory, their spare room too; to change one changes no later answer.
func TestListsThatComeOut(t *testing.T) {
	calls(t).WantNew(t)
}

// P3: one list may be handed in for several, or be a piece of another.
func TestOneListForSeveral(t *testing.T) {
	b := trial.Ordinary(200, 75)
	for _, x := range [][3][]byte{{b[:32], b[:32], b[:32]}, {b[:32], b, b}, {b[100:132], b[90:140], b[:110]}, {b[:32], b[32:], b[31:33]}} {
		closed := wantClosed(t, x[0], x[1], x[2])
		trial.WantBytes(t, "of pieces", closed, plainClose(trial.Joined(x[0]), trial.Joined(x[1]), trial.Joined(x[2])))
	}
	trial.WantBytes(t, "the memory", b, trial.Ordinary(200, 75))
	closed := wantClosed(t, b[:32], nil, b)
	wantNotOpened(t, "closed for what stands ahead", b[:32], closed, closed, api.ErrTag)
	wantNotOpened(t, "a piece of it as its key", closed[:32], nil, closed, api.ErrTag)
	p := ordinary(t, 26)
	wantSent(t, p, p.ek, p.ek, p.ek, p.ek[:32])
	wantSent(t, p, p.dk, p.dk[5:], p.dk, p.dk[40:72])
}
