package ratchet_test

import (
	"math"
	"testing"

	"sodality/api"
	"sodality/hkdf"
	"sodality/ratchet"
	"sodality/trial"
	"sodality/wire"
)

// P17.1 (V3): the chapter's examples.
func TestExamples(t *testing.T) {
	r := ratchet.New(trial.Ordinary(32, 1))
	r2, key2 := wantTaken(t, r, 2)
	r0, key0 := wantTaken(t, r2, 0)
	wantUnlike(t, "both keys", key2, key0)
	wantNotTaken(t, "again", r0, 0, api.ErrUsed)
	wantNotTaken(t, "nine further", r, 9, api.ErrFar)
}

// P17.1 (V3): of all that are right: each number of theirs, those around it, and those far away.
func TestTake(t *testing.T) {
	far := []int64{math.MinInt64, math.MinInt64 + 1, -1 << 32, -maxGen, -1, 0, 1, 1 << 20, maxGen - 1, maxGen, maxGen + 1, 1 << 31, 1 << 32, 1<<32 + 1, math.MaxInt64 - 1, math.MaxInt64}
	for _, r := range rights() {
		for gen := r.Gen - 40; gen < r.Gen+12; gen++ {
			wantTold(t, r, gen)
		}
		for _, k := range r.Kept {
			wantTaken(t, r, k.Gen)
		}
		for _, gen := range append(far, r.Gen+1<<32, r.Gen-1<<32, r.Gen+1<<32-1, math.MaxInt64-r.Gen, math.MinInt64+r.Gen) {
			wantTold(t, r, gen)
		}
	}
}

// P17.1 (V3): below Gen: told by hand.
func TestTakeOfKept(t *testing.T) {
	r := ratchetOf(20, 0, 3, 4, 19)
	for at, k := range r.Kept {
		got, key := wantTaken(t, r, k.Gen)
		trial.WantBytes(t, "its own key", key, k.Key)
		wantGen(t, "Gen", got.Gen, 20)
		trial.WantBytes(t, "Secret", got.Secret, r.Secret)
		trial.WantNumber(t, "how many Kept", len(got.Kept), 3)
		for i, other := range got.Kept {
			was := i
			if i >= at {
				was = i + 1
			}
			wantGen(t, "a Kept's number", other.Gen, r.Kept[was].Gen)
		}
	}
	for _, gen := range []int64{1, 2, 5, 18, -1, -20, math.MinInt64} {
		wantNotTaken(t, "none has it", r, gen, api.ErrUsed)
	}
	for gen := range int64(20) {
		wantNotTaken(t, "nothing is Kept", ratchetOf(20), gen, api.ErrUsed)
	}
}

// P17.1 (V3): one is Kept alone, and of as many as may be each one, till none is left.
func TestTakeOfAllKept(t *testing.T) {
	for many := range maxKept + 1 {
		r := withKept(50, many)
		for i := range many {
			at := (7*i + 3) % len(r.Kept)
			r, _ = wantTaken(t, r, r.Kept[at].Gen)
			trial.WantNumber(t, "how many are left", len(r.Kept), many-i-1)
		}
		wantRatchet(t, "behind all", r, ratchetOf(50))
	}
}

// P17.1 (V3): how far one may go: Gen itself, one to eight further, and no more.
func TestTakeFurther(t *testing.T) {
	for _, gen := range []int64{0, 1, 20, 250, 65530, maxGen - 10} {
		for further := range int64(maxSkip + 1) {
			got, _ := wantTaken(t, ratchetOf(gen), gen+further)
			wantGen(t, "Gen", got.Gen, gen+further+1)
			trial.WantNumber(t, "how many are Kept", len(got.Kept), int(further))
		}
		for _, further := range []int64{9, 10, 16, 17, 256, 1 << 31, 1 << 32, 1<<32 + 1} {
			wantNotTaken(t, "too far", ratchetOf(gen), gen+further, api.ErrFar)
		}
	}
}

// P17.1 (V3), P2: near the last number: what is too far is ErrFar, and what is not, but has no key, ErrTooMany.
func TestTakeNearTheLast(t *testing.T) {
	for back := range int64(12) {
		for _, many := range []int{0, 8, 16} {
			r := withKept(maxGen-back, many)
			for further := range int64(12) {
				switch gen := r.Gen + further; {
				case further > 8:
					wantNotTaken(t, "too far", r, gen, api.ErrFar)
				case further >= back:
					wantNotTaken(t, "behind the last", r, gen, api.ErrTooMany)
				default:
					wantTaken(t, r, gen)
				}
			}
		}
	}
	r, _ := wantTaken(t, ratchetOf(maxGen-9), maxGen-1)
	wantGen(t, "behind the last", r.Gen, maxGen)
	for gen := int64(maxGen - 9); gen < maxGen-1; gen++ {
		r, _ = wantTaken(t, r, gen)
	}
	wantNotTaken(t, "taken", r, maxGen-1, api.ErrUsed)
	wantNotTaken(t, "behind the last", r, maxGen, api.ErrTooMany)
	wantNoNext(t, "behind the last", r, api.ErrTooMany)
}

// P17.1 (V3): with so many Kept, going so far: of more than 16 the first ones go.
func TestTakeWithMany(t *testing.T) {
	for many := range maxKept + 1 {
		for further := range maxSkip + 1 {
			r := withKept(60, many)
			got, _ := wantTaken(t, r, 60+int64(further))
			gone := max(0, many+further-16)
			trial.WantNumber(t, "how many are Kept", len(got.Kept), many+further-gone)
			for _, k := range r.Kept[:gone] {
				wantNotTaken(t, "one that had to go", got, k.Gen, api.ErrUsed)
			}
			for _, k := range r.Kept[gone:] {
				_, key := wantTaken(t, got, k.Gen)
				trial.WantBytes(t, "one that stayed", key, k.Key)
			}
			for i := range further {
				wantTaken(t, got, 60+int64(i))
			}
		}
	}
}

// P17.1 (V3): told by hand: 16 Kept, and eight more that are passed over.
func TestTakeOverAll(t *testing.T) {
	r := ratchetOf(100, 1, 2, 3, 4, 5, 6, 7, 8, 11, 12, 13, 14, 15, 16, 17, 18)
	got, _ := wantTaken(t, r, 108)
	for i, gen := range []int64{11, 12, 13, 14, 15, 16, 17, 18, 100, 101, 102, 103, 104, 105, 106, 107} {
		wantGen(t, "Kept", got.Kept[i].Gen, gen)
	}
	got, _ = wantTaken(t, got, 113)
	for i, gen := range []int64{15, 16, 17, 18, 100, 101, 102, 103, 104, 105, 106, 107, 109, 110, 111, 112} {
		wantGen(t, "Kept", got.Kept[i].Gen, gen)
	}
	wantGen(t, "Gen", got.Gen, 114)
}

// P17.1 (V3): what is taken, and what is passed over, by hkdf's and wire's own calls.
func TestTakeByOtherCalls(t *testing.T) {
	for _, gen := range []int64{0, 250, 65530, maxGen - 9} {
		for further := range int64(maxSkip + 1) {
			r := ratchetOf(gen)
			got, key, err := ratchet.Take(r, gen+further)
			trial.WantErr(t, "Take", err, api.OK)
			trial.WantNumber(t, "how many are Kept", len(got.Kept), int(further))
			secret := r.Secret
			for i := range further + 1 {
				number := wire.Number(gen+i, 4)
				told := hkdf.Label(secret, "key", number, 32)
				if i == further {
					trial.WantBytes(t, "what is taken", key, told)
				} else {
					wantGen(t, "passed over", got.Kept[i].Gen, gen+i)
					trial.WantBytes(t, "passed over", got.Kept[i].Key, told)
				}
				secret = hkdf.Label(secret, "next", number, 32)
			}
			trial.WantBytes(t, "Secret", got.Secret, secret)
		}
	}
}

// P17.1 (V3): by Next: to go on to a number is to ask for each one on the way.
func TestTakeByNext(t *testing.T) {
	for _, first := range rights() {
		for further := int64(0); further <= maxSkip && first.Gen+further < maxGen; further++ {
			r, kept := first, first.Kept[:len(first.Kept):len(first.Kept)]
			for range further {
				next, gen, key, _ := ratchet.Next(r)
				r, kept = next, append(kept, api.Kept{Gen: gen, Key: key})
			}
			next, _, key, _ := ratchet.Next(r)
			next.Kept = kept[max(0, len(kept)-maxKept):]
			got, gotKey := wantTaken(t, first, first.Gen+further)
			trial.WantBytes(t, "Take's key", gotKey, key)
			wantRatchet(t, "Take", got, next)
		}
	}
}
