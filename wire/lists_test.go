package wire_test

import (
	"bytes"
	"slices"
	"testing"

	"sodality/api"
	"sodality/trial"
	"sodality/wire"
)

// told is a place and an error as a list.
func told(behind int, err api.Errno) []byte {
	return trial.Joined(plainNumber(int64(behind), 8), plainNumber(int64(err), 8))
}

func reading(name string, b []byte) trial.Calls {
	return trial.Calls{
		{Name: "GetNumber of " + name, Take: [][]byte{b}, Do: func(b [][]byte) [][]byte {
			n, behind, err := wire.GetNumber(b[0], 0, 4)
			return [][]byte{plainNumber(n, 8), told(behind, err)}
		}},
		{Name: "GetText of " + name, Take: [][]byte{b}, Do: func(b [][]byte) [][]byte {
			s, behind, err := wire.GetText(b[0], 0)
			return [][]byte{s, told(behind, err)}
		}},
		{Name: "GetList of " + name, Take: [][]byte{b}, Do: func(b [][]byte) [][]byte {
			l, behind, err := wire.GetList(b[0], 0)
			return append(l, told(behind, err))
		}},
	}
}

func writing(name string, take ...[]byte) trial.Calls {
	return trial.Calls{
		{Name: "Text of " + name, Take: take, Do: func(l [][]byte) [][]byte {
			b, err := wire.Text(l[0])
			return [][]byte{b, told(0, err)}
		}},
		{Name: "List of " + name, Take: take, Do: func(l [][]byte) [][]byte {
			b, err := wire.List(l)
			return [][]byte{b, told(0, err)}
		}},
	}
}

func calls() trial.Calls {
	texts := [][]byte{some(5, 1), {}, some(63, 2), some(64, 3), some(300, 4), {0}}
	behind := func(b []byte) []byte { return trial.Joined(b, some(40, 5)) }
	return slices.Concat(
		trial.Calls{{Name: "Number", Do: func([][]byte) [][]byte { return [][]byte{wire.Number(1<<40+7, 8)} }}},
		writing("some texts", texts...),
		writing("no bytes", []byte{}),
		writing("one long text", some(17000, 6)),
		writing("too much", make([]byte, maxText+1), []byte{1}),
		reading("a list", behind(plainList(texts))),
		reading("a list that is all", plainList(texts)),
		reading("a list of a list", behind(plainList([][]byte{plainList(texts), plainList(texts)}))),
		reading("a list of none", behind([]byte{0})),
		reading("a list of empty ones", behind(plainList(many(9, 0)))),
		reading("a long text", behind(plainText(some(17000, 7)))),
		reading("a list with a wrong text behind", behind(listOf(1, 'a', 2, 'b', 'c', 192))),
		reading("no length", behind([]byte{192})),
		reading("nothing", []byte{}),
	)
}

// P3: what is handed in is neither changed nor kept, nor is its spare room, with an answer as with an error.
func TestListsHandedIn(t *testing.T) {
	calls().WantLent(t)
}

// P3: what comes out is new memory, its spare room too; to change one list changes no other one, and no later answer.
func TestListsThatComeOut(t *testing.T) {
	calls().WantNew(t)
}

// P3: a list's own row of texts, and what stands behind it, is neither changed nor kept.
func TestRowsHandedIn(t *testing.T) {
	rows := func() [][]byte { return [][]byte{{1}, {'a', 'b'}, nil, {}, {'c'}, {2}, nil} }
	for _, greatest := range [][]byte{{3}, make([]byte, maxText+1)} {
		room := append(rows(), greatest)
		kept := slices.Clone(room)
		b, _ := wire.List(room[1:5])
		again, _ := wire.List(append(room[1:5:5], greatest))
		first := trial.Joined(b, again)
		for i := range room {
			if !bytes.Equal(room[i], kept[i]) || (room[i] == nil) != (kept[i] == nil) {
				t.Errorf("the text at %d is changed", i)
			}
			room[i] = []byte("other")
		}
		trial.WantBytes(t, "behind a change of the row", trial.Joined(b, again), first)
	}
}

// P3: texts of a list may stand in one memory, over each other too.
func TestOneMemoryForAll(t *testing.T) {
	b := some(200, 8)
	l := [][]byte{b[:100], b[50:150], b, b[:0], b[199:]}
	wantList(t, l)
	trial.WantBytes(t, "the memory", b, some(200, 8))
}

// P3: rows that come out are new memory, their spare room too.
func TestRowsThatComeOut(t *testing.T) {
	for _, l := range [][][]byte{{{1}, {2}, nil}, many(5, 1), many(100, 0)} {
		b := plainList(l)
		first, _, _ := wire.GetList(b, 0)
		again, _, _ := wire.GetList(b, 0)
		first = first[:cap(first)]
		for i := range first {
			first[i] = []byte("other")
		}
		wantTexts(t, again, l)
		third, _, _ := wire.GetList(b, 0)
		wantTexts(t, third, l)
		trial.WantBytes(t, "handed in", b, plainList(l))
	}
}
