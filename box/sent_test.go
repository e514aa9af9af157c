package box_test

import (
	"bytes"
	"testing"

	"sodality/api"
	"sodality/box"
	"sodality/mlkem"
	"sodality/trial"
)

// rightKeys are right, though nobody made them.
func rightKeys(p pair) [][]byte {
	return [][]byte{make([]byte, 1184), trial.Joined(make([]byte, 1152), p.ek[1152:]), trial.Changed(p.ek, 1183, 1), p.dk[:1184]}
}

// wrongKeys are none of mlkem's to close with: of other lengths, or with a number too great in a part.
func wrongKeys(p pair) [][]byte {
	out := [][]byte{nil, {}, p.ek[1:], p.ek[:1183], trial.Joined(p.ek, []byte{0}), p.dk, bytes.Repeat([]byte{255}, 1184)}
	for _, at := range []int{0, 384, 1149} {
		out = append(out, tooGreat(p.ek, at))
	}
	return out
}

// tooGreat has the number that begins at a place be 4095.
func tooGreat(ek []byte, at int) []byte {
	return trial.Changed(trial.Changed(ek, at, ^ek[at]), at+1, ^ek[at+1]&15)
}

// wrongOwn are none of mlkem's to open with: of other lengths, with another sum than the key's, or another key than the sum's.
func wrongOwn(p pair) [][]byte {
	out := [][]byte{nil, {}, p.dk[1:], p.dk[:2399], trial.Joined(p.dk, []byte{0}), p.ek, p.d, make([]byte, 2400)}
	for _, at := range []int{1152, 1700, 2335, 2336, 2367} {
		out = append(out, trial.Changed(p.dk, at, 1))
	}
	return out
}

// P12.1 (B2): keys of secrets and infos that were told by other means, and what they close.
func TestSentByHand(t *testing.T) {
	trial.WantBytes(t, "a key", plainKeyOf(counted(32), []byte("info")), byHex(t, "394e9de18b3aabd64e4c0ddb92f8472a4612bb7c236fb8e7f924424780e1e7bd"))
	trial.WantBytes(t, "a key of nothing", plainKeyOf(make([]byte, 32), nil), byHex(t, "33015f1a55834991fb868954b412b29f0957c4c5d4da1f18f13053bbd21d43be"))
	p, m := ordinary(t, 1), trial.Ordinary(32, 40)
	secret, told, err := mlkem.Close(p.ek, m)
	trial.WantErr(t, "mlkem.Close", err, api.OK)
	closed, err := box.Close(plainKeyOf(secret, []byte("info")), []byte("ahead"), []byte("text"))
	trial.WantErr(t, "Close", err, api.OK)
	trial.WantBytes(t, "sent", wantSent(t, p, []byte("info"), []byte("ahead"), []byte("text"), m), trial.Joined(told, closed))
}

// P12.1 (B2), P12.2, P12.4: ordinary keys and coins and such as are all alike, with infos, what stands ahead and texts likewise.
func TestSentThereAndBack(t *testing.T) {
	for which, d := range trial.Seeds(32, 3) {
		p := pairOf(t, d, trial.Ordinary(32, which))
		for _, m := range trial.Seeds(32, 2) {
			for _, info := range append(trial.Seeds(20, 1), nil) {
				for _, ahead := range append(trial.Seeds(30, 1), nil) {
					wantSent(t, p, info, ahead, nil, m)
					wantSent(t, p, info, ahead, trial.Ordinary(100, 41), m)
				}
			}
		}
	}
}

// P12.1 (B2): keys that are right, though nobody made them, are sent to.
func TestSentToNobody(t *testing.T) {
	m := trial.Ordinary(32, 42)
	for _, ek := range rightKeys(ordinary(t, 2)) {
		sent, err := box.Send(ek, []byte("info"), []byte("ahead"), []byte("text"), m)
		trial.WantErr(t, "Send", err, api.OK)
		trial.WantBytes(t, "Send", sent, plainSend(t, ek, []byte("info"), []byte("ahead"), []byte("text"), m))
	}
}

// P12.1 (B2), P12.2, P12.4: texts of each edge, and of one byte more than may be.
func TestLengthsOfSentTexts(t *testing.T) {
	p, m := ordinary(t, 3), trial.Ordinary(32, 43)
	for _, n := range edges() {
		wantSent(t, p, []byte("info"), []byte("ahead"), trial.Ordinary(n, 44), m)
		wantSent(t, p, nil, trial.Ordinary(maxSeal, 45), trial.Ordinary(n, 44), m)
	}
	for _, n := range []int{maxSeal + 1, maxSeal + 32, 2 * maxSeal, 1<<20 + 1} {
		wantNotSent(t, "a text too long", p.ek, nil, nil, make([]byte, n), m, api.ErrTooMany)
	}
}

// P12.1 (B2), P12.2: what stands ahead, of lengths likewise.
func TestLengthsAheadOfSent(t *testing.T) {
	p, m := ordinary(t, 4), trial.Ordinary(32, 46)
	for _, n := range edges() {
		wantSent(t, p, []byte("info"), trial.Ordinary(n, 47), []byte("text"), m)
	}
	for _, n := range []int{maxSeal + 1, maxSeal + 32, 2 * maxSeal, 1<<20 + 1} {
		ahead := make([]byte, n)
		wantNotSent(t, "too much ahead", p.ek, nil, ahead, nil, m, api.ErrTooMany)
		wantNotReceived(t, "too much ahead", p.dk, nil, ahead, plainSend(t, p.ek, nil, ahead, nil, m), api.ErrTooMany)
	}
}

// P12.1 (B2), P12.2: infos up to 10000 bytes, and of one byte more.
func TestLengthsOfInfos(t *testing.T) {
	p, m := ordinary(t, 5), trial.Ordinary(32, 48)
	for _, n := range []int{0, 1, 2, 31, 32, 33, 63, 64, 65, 255, 256, 1000, maxInfo - 1, maxInfo} {
		wantSent(t, p, trial.Ordinary(n, 49), []byte("ahead"), []byte("text"), m)
	}
	for _, n := range []int{maxInfo + 1, maxInfo + 2, 15999, 16000, 16001, 16384, 1<<20 + 1} {
		info := make([]byte, n)
		wantNotSent(t, "an info too long", p.ek, info, nil, nil, m, api.ErrTooMany)
		wantNotReceived(t, "an info too long", p.dk, info, nil, plainSend(t, p.ek, info, nil, nil, m), api.ErrTooMany)
	}
}

// P12.1 (B2), P12.3: another info than was sent with.
func TestAnotherInfo(t *testing.T) {
	p, m, text := ordinary(t, 6), trial.Ordinary(32, 50), []byte("some text")
	for _, n := range []int{1, 5, 63, 64, maxInfo - 1} {
		info := trial.Ordinary(n, 51)
		sent := wantSent(t, p, info, nil, text, m)
		for _, other := range [][]byte{
			nil, info[1:], info[:n-1], trial.Joined(info, []byte{0}), trial.Joined([]byte{0}, info),
			trial.Changed(info, 0, 1), trial.Changed(info, n/2, 8), trial.Changed(info, n-1, 128), make([]byte, n),
		} {
			wantNotReceived(t, "another info", p.dk, other, nil, sent, api.ErrTag)
			if again := wantSent(t, p, other, nil, text, m); !bytes.Equal(again[:1088], sent[:1088]) || bytes.Equal(again[1088:1097], sent[1088:1097]) {
				t.Fatal("of another info: mlkem's text is unlike, or the text's bytes are alike")
			}
		}
		wantNotReceived(t, "the info ahead", p.dk, nil, info, sent, api.ErrTag)
	}
	sent := wantSent(t, p, nil, nil, text, m)
	wantNotReceived(t, "an info, where there was none", p.dk, []byte{0}, nil, sent, api.ErrTag)
	sent = wantSent(t, p, []byte("info"), []byte("ahead"), text, m)
	wantNotReceived(t, "the info and what stands ahead, one for the other", p.dk, []byte("ahead"), []byte("info"), sent, api.ErrTag)
}

// P12.3: something else ahead than there was.
func TestSomethingElseAheadOfSent(t *testing.T) {
	p, m, text := ordinary(t, 7), trial.Ordinary(32, 52), []byte("some text")
	ahead := trial.Ordinary(64, 53)
	sent := wantSent(t, p, nil, ahead, text, m)
	for _, other := range [][]byte{nil, ahead[1:], ahead[:63], trial.Joined(ahead, []byte{0}), trial.Changed(ahead, 0, 1), trial.Changed(ahead, 63, 128), text, sent} {
		wantNotReceived(t, "something else ahead", p.dk, nil, other, sent, api.ErrTag)
		again := wantSent(t, p, nil, other, text, m)
		trial.WantBytes(t, "what stands ahead changes the tag alone", again[:1097], sent[:1097])
	}
	wantNotReceived(t, "bytes moved", p.dk, nil, ahead[:63], trial.Joined(sent[:1088], ahead[63:], sent[1088:]), api.ErrTag)
	wantNotReceived(t, "bytes moved the other way", p.dk, nil, trial.Joined(ahead, sent[1088:1089]), trial.Joined(sent[:1088], sent[1089:]), api.ErrTag)
}

// P12.1 (B2), P2: keys to send to that are none of mlkem's.
func TestWrongKeysToSendTo(t *testing.T) {
	p, m := ordinary(t, 8), trial.Ordinary(32, 54)
	for _, ek := range wrongKeys(p) {
		for _, text := range [][]byte{nil, []byte("text")} {
			wantNotSent(t, "a wrong key", ek, []byte("info"), nil, text, m, api.ErrKey)
		}
	}
}

// P12.1 (B2), P2: keys to receive with that are none of mlkem's.
func TestWrongKeysToReceiveWith(t *testing.T) {
	p, m := ordinary(t, 9), trial.Ordinary(32, 55)
	sent := wantSent(t, p, nil, nil, []byte("text"), m)
	for _, dk := range wrongOwn(p) {
		for _, x := range [][]byte{sent, sent[:1088], make([]byte, 1088), make([]byte, 3000)} {
			wantNotReceived(t, "a wrong key", dk, nil, nil, x, api.ErrKey)
		}
	}
}

// P12.1 (B2), P2: coins have 32 bytes.
func TestCoinsOfWrongLengths(t *testing.T) {
	p := ordinary(t, 10)
	for _, n := range trial.Around(32) {
		wantNotSent(t, "wrong coins", p.ek, nil, nil, []byte("text"), make([]byte, n), api.ErrArg)
		wantNotSent(t, "wrong coins and a wrong key", p.ek[1:], nil, nil, []byte("text"), make([]byte, n), api.ErrArg)
	}
	wantNotSent(t, "no coins", p.ek, nil, nil, []byte("text"), nil, api.ErrArg)
}

// P12.1 (B2): other coins, and another key, send other bytes of one text.
func TestUnlikeSent(t *testing.T) {
	p, text, seen := ordinary(t, 11), make([]byte, 32), map[string]bool{}
	other := ordinary(t, 12)
	for _, m := range trial.Seeds(32, 3) {
		for _, to := range []pair{p, other} {
			sent := wantSent(t, to, nil, nil, text, m)
			seen[string(sent[:1088])], seen[string(sent[1088:1120])], seen[string(sent[1120:])] = true, true, true
		}
	}
	if len(seen) != 30 {
		t.Errorf("%d unlike parts, want 30", len(seen))
	}
}

// P12.1 (B2), P2: sent bytes of lengths that may be, and such as may not.
func TestLengthsOfWhatIsSent(t *testing.T) {
	p, m := ordinary(t, 13), trial.Ordinary(32, 56)
	sent := wantSent(t, p, nil, nil, nil, m)
	for n := range 1120 {
		wantNotReceived(t, "the first bytes alone", p.dk, nil, nil, sent[:n], api.ErrTag)
		wantNotReceived(t, "the last bytes alone", p.dk, nil, nil, sent[1120-n:], api.ErrTag)
	}
	for _, n := range []int{0, 1, 32, 1087, 1088, 1089, 1119, 1120, 1121, 2000, 1088 + maxSeal + 31, 1088 + maxSeal + 32} {
		for _, x := range trial.Seeds(n, 1) {
			wantNotReceived(t, "what nobody sent", p.dk, nil, nil, x, api.ErrTag)
		}
	}
	wantNotReceived(t, "nil", p.dk, nil, nil, nil, api.ErrTag)
	for _, n := range []int{0, 1, maxSeal} {
		text := trial.Ordinary(n, 57)
		wantReceived(t, p, nil, nil, plainSend(t, p.ek, nil, nil, text, m), text)
	}
	for _, n := range []int{maxSeal + 1, maxSeal + 32, 2 * maxSeal} {
		wantNotReceived(t, "too long", p.dk, nil, nil, plainSend(t, p.ek, nil, nil, make([]byte, n), m), api.ErrTooMany)
		wantNotReceived(t, "too much that nobody sent", p.dk, nil, nil, make([]byte, 1120+n), api.ErrTooMany)
	}
}

// P12.3: one bit changed of what was sent, at each byte, and each bit of some.
func TestOneBitChangedOfSent(t *testing.T) {
	p, m := ordinary(t, 14), trial.Ordinary(32, 58)
	sent := wantSent(t, p, []byte("info"), []byte("ahead"), []byte("some text"), m)
	for at := range sent {
		wantNotReceived(t, "one bit changed", p.dk, []byte("info"), []byte("ahead"), trial.Changed(sent, at, 1<<(at%8)), api.ErrTag)
	}
	for bit := range 8 {
		for _, at := range []int{0, 959, 960, 1087, 1088, 1096, 1097, 1128} {
			wantNotReceived(t, "one bit changed", p.dk, []byte("info"), []byte("ahead"), trial.Changed(sent, at, 1<<bit), api.ErrTag)
		}
	}
}

// P12.3: parts of two that were sent do not stand for each other; nor do bytes that are left out or added.
func TestPartsOfTwoSent(t *testing.T) {
	p, text := ordinary(t, 15), trial.Ordinary(40, 59)
	one := wantSent(t, p, nil, nil, text, trial.Ordinary(32, 60))
	two := wantSent(t, p, nil, nil, text, trial.Ordinary(32, 61))
	for _, x := range [][]byte{
		trial.Joined(one[:1088], two[1088:]), trial.Joined(one[:1128], two[1128:]), trial.Joined(one[1088:], one[:1088]),
		one[1:], one[:1159], trial.Joined(one, []byte{0}), trial.Joined([]byte{0}, one), trial.Joined(one, two), trial.Joined(one[:1087], one[1088:]),
	} {
		wantNotReceived(t, "put together otherwise", p.dk, nil, nil, x, api.ErrTag)
	}
}

// P12.3: another key to receive with, and one's own with another secret key in it; with another z it receives as before.
func TestAnotherKeyToReceiveWith(t *testing.T) {
	p, other := ordinary(t, 16), ordinary(t, 17)
	m, text := trial.Ordinary(32, 62), []byte("some text")
	sent := wantSent(t, p, nil, nil, text, m)
	wantNotReceived(t, "another key", other.dk, nil, nil, sent, api.ErrTag)
	wantNotReceived(t, "one's own for another's", p.dk, nil, nil, wantSent(t, other, nil, nil, text, m), api.ErrTag)
	for _, at := range []int{0, 700, 1151} {
		wantNotReceived(t, "another secret key in it", trial.Changed(p.dk, at, 255), nil, nil, sent, api.ErrTag)
	}
	wantReceived(t, pairOf(t, p.d, other.z), nil, nil, sent, text)
}

// P12.1 (B2): mlkem opens a text that nobody closed, without a word, to a secret that hangs on the key and it; what is closed under its key is received.
func TestSentByWhoKnowsTheKey(t *testing.T) {
	p, info, ahead, text := ordinary(t, 18), []byte("info"), []byte("ahead"), []byte("some text")
	for _, told := range trial.Seeds(1088, 3) {
		key := plainKeyOf(plainSecret(t, p.d, p.z, told), info)
		wantReceived(t, p, info, ahead, trial.Joined(told, plainClose(key, ahead, text)), text)
		wantToldReceive(t, p, info, ahead, trial.Joined(told, trial.Ordinary(41, 63)))
	}
}

// P12.3: whatever bytes, with whatever keys, are received as in the other way.
func TestWhateverIsReceived(t *testing.T) {
	received := 0
	keys := []pair{ordinary(t, 19), ordinary(t, 20)}
	for which := range 100 {
		sent := plainSend(t, keys[0].ek, []byte("info"), trial.Ordinary(which%2, 1), trial.Ordinary(which, which), trial.Ordinary(32, which))
		if wantToldReceive(t, keys[which/2%2], []byte("info"), trial.Ordinary(which%3, 1), sent) {
			received++
		}
	}
	if received < 10 || received > 90 {
		t.Errorf("%d of 100 were received", received)
	}
}

// P2: in Send the info's length is named ahead of mlkem.Close's errors, and these ahead of Close's.
func TestSeveralErrorsOfSend(t *testing.T) {
	p, m := ordinary(t, 21), trial.Ordinary(32, 64)
	longInfo, great := make([]byte, maxInfo+1), make([]byte, maxSeal+1)
	wantNotSent(t, "an info too long, and wrong coins", p.ek, longInfo, nil, nil, m[1:], api.ErrTooMany)
	wantNotSent(t, "an info too long, and a wrong key", p.ek[1:], longInfo, nil, nil, m, api.ErrTooMany)
	wantNotSent(t, "an info too long, and all else wrong", nil, longInfo, great, great, nil, api.ErrTooMany)
	for _, ek := range append(wrongKeys(p), p.ek) {
		wantNotSent(t, "wrong coins, and too much ahead", ek, nil, great, nil, m[1:], api.ErrArg)
		wantNotSent(t, "wrong coins, and a text too long", ek, nil, nil, great, nil, api.ErrArg)
	}
	for _, ek := range wrongKeys(p) {
		wantNotSent(t, "a wrong key, and too much ahead", ek, nil, great, nil, m, api.ErrKey)
		wantNotSent(t, "a wrong key, and a text too long", ek, nil, nil, great, m, api.ErrKey)
	}
}

// P2: in Receive the info's length is named ahead of ErrTag, that ahead of mlkem.Open's errors, and these ahead of Open's.
func TestSeveralErrorsOfReceive(t *testing.T) {
	p := ordinary(t, 22)
	longInfo, great := make([]byte, maxInfo+1), make([]byte, maxSeal+1)
	for _, n := range []int{0, 1, 1087} {
		sent := make([]byte, n)
		wantNotReceived(t, "an info too long, and too short", p.dk, longInfo, nil, sent, api.ErrTooMany)
		wantNotReceived(t, "an info too long, and all else wrong", nil, longInfo, great, sent, api.ErrTooMany)
		wantNotReceived(t, "too short, and too much ahead", p.dk, nil, great, sent, api.ErrTag)
		for _, dk := range wrongOwn(p) {
			wantNotReceived(t, "too short, and a wrong key", dk, nil, nil, sent, api.ErrTag)
			wantNotReceived(t, "too short, a wrong key, and too much ahead", dk, nil, great, sent, api.ErrTag)
		}
	}
	for _, dk := range wrongOwn(p) {
		wantNotReceived(t, "an info too long, and a wrong key", dk, longInfo, nil, make([]byte, 1120), api.ErrTooMany)
		wantNotReceived(t, "a wrong key, and too much ahead", dk, nil, great, make([]byte, 1120), api.ErrKey)
		wantNotReceived(t, "a wrong key, and too long", dk, nil, nil, make([]byte, 1121+maxSeal), api.ErrKey)
		wantNotReceived(t, "a wrong key, and no tag", dk, nil, nil, make([]byte, 1088), api.ErrKey)
	}
	wantNotReceived(t, "too much ahead, and no room for a tag", p.dk, nil, great, make([]byte, 1119), api.ErrTooMany)
	wantNotReceived(t, "too much ahead, and no tag", p.dk, nil, great, make([]byte, 1120), api.ErrTooMany)
	wantNotReceived(t, "too long, and no tag", p.dk, nil, nil, make([]byte, 1121+maxSeal), api.ErrTooMany)
}

// P3: the same arguments again, behind other calls and behind errors.
func TestSentAgain(t *testing.T) {
	p, other := ordinary(t, 23), ordinary(t, 24)
	info, ahead, text := []byte("info"), []byte("ahead"), []byte("text")
	first := wantSent(t, p, info, ahead, text, p.d)
	for _, m := range trial.Seeds(32, 2) {
		wantSent(t, other, ahead, text, info, m)
		wantNotReceived(t, "another key", other.dk, info, ahead, first, api.ErrTag)
		wantNotSent(t, "a wrong key", p.ek[1:], info, ahead, text, m, api.ErrKey)
		trial.WantBytes(t, "sent again", wantSent(t, p, info, ahead, text, p.d), first)
	}
}
