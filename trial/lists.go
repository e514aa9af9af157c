package trial

// Room ahead of a list that is lent, and behind it.
const (
	ahead  = 64
	behind = 4096
)

// Call is one that takes lists, and answers some.
type Call struct {
	Name string
	Take [][]byte
	Do   func(take [][]byte) [][]byte
}

type Calls []Call

// WantLent and WantNew hold P3 against each of the calls.
func (all Calls) WantLent(t T) {
	t.Helper()
	for _, c := range all {
		c.WantLent(t)
	}
}

func (all Calls) WantNew(t T) {
	t.Helper()
	for _, c := range all {
		c.WantNew(t)
	}
}

// Truth is a bool as lists.
func Truth(is bool) [][]byte {
	if is {
		return [][]byte{{1}}
	}
	return [][]byte{{0}}
}

// lent is a list with more ahead of it, and spare room behind it: all of it must stay as it was.
type lent struct {
	room, was []byte
	n         int
}

func lend(b []byte) lent {
	room := Joined(Ordinary(ahead, 1), b, Ordinary(behind, 2))
	return lent{room, Joined(room), len(b)}
}

func (l lent) list() []byte { return l.room[ahead : ahead+l.n] }

// WantLent ends a test whose call changes what it was handed in, or its spare room, or keeps it: with an answer, and with what it says when each list, or when one alone, lacks a byte.
func (c Call) WantLent(t T) {
	t.Helper()
	c.wantLent(t, func(int) bool { return false })
	c.wantLent(t, func(int) bool { return true })
	for short := range c.Take {
		c.wantLent(t, func(i int) bool { return i == short })
	}
}

func (c Call) wantLent(t T, isShort func(i int) bool) {
	t.Helper()
	var all []lent
	var lists [][]byte
	for i, b := range c.Take {
		if isShort(i) && len(b) > 0 {
			b = b[1:]
		}
		l := lend(b)
		all, lists = append(all, l), append(lists, l.list())
	}
	first := c.Do(lists)
	kept := Joined(first...)
	for _, l := range all {
		WantBytes(t, c.Name+", handed in", l.room, l.was)
		clear(l.room)
	}
	WantBytes(t, c.Name+", behind a change of what was handed in", Joined(first...), kept)
}

// WantNew ends a test whose call answers something else when it is asked anew, or lists that share memory, spare room too, with each other or with those of another answer.
func (c Call) WantNew(t T) {
	t.Helper()
	first, again := c.Do(c.Take), c.Do(c.Take)
	kept := Joined(again...)
	WantBytes(t, c.Name+", asked anew", Joined(first...), kept)
	for i, b := range first {
		clear(b[:cap(b)])
		for j := i + 1; j < len(first); j++ {
			WantBytes(t, c.Name+", behind a change of another list", first[j], again[j])
		}
	}
	WantBytes(t, c.Name+", behind a change of what came out", Joined(again...), kept)
	WantBytes(t, c.Name+", asked once more", Joined(c.Do(c.Take)...), kept)
}
