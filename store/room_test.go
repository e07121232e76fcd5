package store_test

import (
	"fmt"
	"math/rand"
	"testing"

	"muniment/api"
)

// P12.2: they never lack room: Commit, Abort and Begin in a log that is as full as can be, again and again; what was written is there, or isn't.
func TestNeverLackRoom(t *testing.T) {
	for _, count := range []int{16, 17, 33} {
		for _, frames := range []int{1, 3, 8} {
			r := newRig(t, count, 5, frames)
			draw := rand.New(rand.NewSource(int64(count + frames)))
			for round := range 40 {
				r.begin()
				r.fill(1 + draw.Intn(body))
				for _, size := range []int{40, 5, 1} {
					r.fill(size)
				}
				if round%3 == 0 {
					r.fillWithChecks()
				}
				if round%2 == 0 {
					r.commit()
				} else {
					r.abort()
				}
				if round%5 == 0 && !r.opens() {
					t.Fatal("the store isn't opened")
				}
			}
			if !r.is(r.sure) {
				t.Fatal("the pages aren't what they were behind the last commit")
			}
		}
	}
}

// fillWithChecks does checkpoints, till there is no room for their record either.
func (r *rig) fillWithChecks() {
	r.t.Helper()
	for room := -1; room != r.s.Room(); {
		room = r.s.Room()
		r.check()
	}
}

// P12.2, P12.5: what Begin and Commit, or Abort, take together, however they are used, with nothing written between; no room is ever too little for them.
func TestBeginAndEnd(t *testing.T) {
	for _, ends := range []func(r *rig) bool{(*rig).commit, (*rig).abort} {
		r := newRig(t, 16, 2, 2)
		for range 3000 {
			room := r.s.Room()
			r.begin()
			if took := room - r.s.Room(); took > 100 {
				t.Fatalf("Begin takes %d", took)
			}
			ends(r)
			if took := room - r.s.Room(); took > 100 {
				t.Fatalf("Begin and the end take %d", took)
			}
		}
	}
}

// P12.2: Begin and Commit together take at most 100 bytes, beside what the Writes between have taken.
func TestCommitTakes(t *testing.T) {
	draw := rand.New(rand.NewSource(1))
	r := newRig(t, 40, 6, 3)
	for range 300 {
		room := r.s.Room()
		r.begin()
		taken := room - r.s.Room()
		for range draw.Intn(5) {
			r.takes(step{writes, draw.Intn(6), draw.Intn(400), draw.Intn(100)})
		}
		room = r.s.Room()
		r.commit()
		if taken += room - r.s.Room(); taken > 100 {
			t.Fatalf("Begin and Commit take %d", taken)
		}
	}
}

// takesOf is how much of the log's room a Write takes that changes n bytes.
func takesOf(t *testing.T, n int) int {
	t.Helper()
	r := newRig(t, 16, 2, 2)
	r.begin()
	room := r.s.Room()
	r.write(1, with(r.now[1], 0, n))
	return room - r.s.Room()
}

// roomOf is a store in whose transaction there is just that much room.
func roomOf(t *testing.T, want int) *rig {
	t.Helper()
	more := takesOf(t, 2) - takesOf(t, 1)
	least := takesOf(t, 1)
	// The transaction ahead leaves other remainders.
	for n := range 20 {
		r := newRig(t, 16, 2, 2)
		r.begin()
		r.write(0, with(r.now[0], 0, n))
		r.commit()
		r.begin()
		for r.s.Room() >= want+least {
			size := min(body, (r.s.Room()-want-least)/more+1)
			// What is left behind it is none, or there is room for one more.
			if left := r.s.Room() - want - least - more*(size-1); left > 0 && left < least {
				size -= (least - left + more - 1) / more
			}
			if size < 1 {
				break
			}
			r.write(0, with(r.now[0], 0, size))
		}
		if r.s.Room() == want {
			return r
		}
	}
	t.Fatalf("there is no store with Room %d", want)
	return nil
}

// P12.2: Write where the log has just room for it, and one byte too few: then nothing has changed, and the transaction is open still.
func TestWriteJustFits(t *testing.T) {
	for _, n := range []int{1, 2, 3, 4, 60, 503, 504} {
		for _, off := range []int{0, body - n} {
			takes := takesOf(t, n)
			if takes > 100+3*n {
				t.Errorf("a Write of %d bytes takes %d", n, takes)
			}
			r := roomOf(t, takes)
			answers(t, fmt.Sprintf("Write of %d bytes with Room %d", n, takes), r.s.Write(1, with(r.now[1], off, n)), api.OK)
			if r.s.Room() != 0 {
				t.Errorf("Room = %d", r.s.Room())
			}
			r.now[1] = with(r.now[1], off, n)
			r.commit()
			if !r.opens() {
				t.Fatal("the store isn't opened")
			}

			r = roomOf(t, takes-1)
			for range 2 {
				answers(t, fmt.Sprintf("Write of %d bytes with Room %d", n, takes-1), r.s.Write(1, with(r.now[1], off, n)), api.ErrFull)
				r.tells()
				if r.s.Room() != takes-1 || !r.is(r.now) {
					t.Errorf("behind ErrFull Room = %d, or a page has changed", r.s.Room())
				}
			}
			// What has more room may be written still.
			if n > 1 {
				answers(t, "Write of fewer bytes", r.s.Write(1, with(r.now[1], off, n-1)), api.OK)
				r.now[1] = with(r.now[1], off, n-1)
			}
			r.commit()
			if !r.opens() {
				t.Fatal("the store isn't opened")
			}
		}
	}
}

// P12.3: Checkpoint where the log has just room for its record, and one byte too few; with no dirty page, and with some.
func TestCheckpointJustFits(t *testing.T) {
	for _, dirty := range []bool{false, true} {
		made := func(room int) *rig {
			r := roomOf(t, room)
			if !dirty {
				r.flush()
			}
			return r
		}
		// Its start stays that of the transaction, so that what the record takes is to be seen in the room.
		r := made(200)
		r.check()
		room := r.s.Room()
		r.check()
		takes := room - r.s.Room()
		if takes < 1 || takes > 100+10 {
			t.Fatalf("a Checkpoint takes %d", takes)
		}
		r = made(takes)
		answers(t, "Checkpoint", r.s.Checkpoint(), api.OK)
		r.abort()
		if !r.opens() {
			t.Fatal("the store isn't opened")
		}
		r = made(takes - 1)
		for range 2 {
			answers(t, "Checkpoint", r.s.Checkpoint(), api.ErrFull)
			r.tells()
			if r.s.Room() != takes-1 || !r.is(r.now) {
				t.Errorf("behind ErrFull Room = %d, or a page has changed", r.s.Room())
			}
		}
		r.commit()
		if !r.opens() {
			t.Fatal("the store isn't opened")
		}
	}
}

// P12.3: what a Checkpoint frees: all, behind a Flush without a transaction; what is ahead of the transaction; what is ahead of the first page that isn't on the disk.
func TestCheckpointFrees(t *testing.T) {
	r := newRig(t, 16, 4, 4)
	one := func(i int) {
		r.begin()
		r.write(i, with(r.now[i], 0, body))
		r.commit()
	}
	one(0)
	one(1)
	r.flush()
	r.check()
	if room := r.s.Room(); room < 15*part {
		t.Errorf("behind Flush and Checkpoint Room = %d", room)
	}
	// Of three pages the first one is on the disk alone, so that the records of two are needed.
	one(0)
	r.flush()
	one(1)
	one(2)
	room := r.s.Room()
	r.check()
	if freed := r.s.Room() - room; freed < 2*body-part-100 || freed > 2*body+part+100 {
		t.Errorf("a Checkpoint with two of three pages dirty frees %d", freed)
	}
	// The transaction's own are needed, if its page is on the disk too.
	r.begin()
	r.write(3, filled(5))
	r.flush()
	room = r.s.Room()
	r.check()
	if freed := r.s.Room() - room; freed < 4*body-part-100 || freed > 4*body+part+100 {
		t.Errorf("a Checkpoint in a transaction frees %d", freed)
	}
	room = r.s.Room()
	r.check()
	if freed := r.s.Room() - room; freed >= part {
		t.Errorf("a Checkpoint of what is needed frees %d", freed)
	}
	r.abort()
	answers(t, "Restart", r.d.Restart(nil), api.OK)
	if !r.opens() {
		t.Fatal("the store isn't opened")
	}
}

// P12.3, P12.4: what was freed is written over, many times round the ring, and the power goes off then.
func TestCheckpointGoesRound(t *testing.T) {
	for _, flush := range []bool{false, true} {
		r := newRig(t, 16, 4, 2)
		for n := range 200 {
			r.begin()
			r.write(n%4, with(r.now[n%4], n, 100))
			if n%3 == 0 {
				r.check()
			}
			r.write(3, with(r.now[3], n, 9))
			if flush && n%5 == 0 {
				r.flush()
				r.check()
			}
			if n%7 == 0 {
				r.abort()
			} else {
				r.commit()
			}
			if n%11 == 0 {
				answers(t, "Restart", r.d.Restart(nil), api.OK)
				if !r.opens() {
					t.Fatal("the store isn't opened")
				}
			}
		}
	}
}

// P12.3: more pages are dirty than a record can tell of: those in memory, and some that were driven out and aren't durable.
func TestCheckpointOfMany(t *testing.T) {
	frames := api.MaxFrames
	for _, others := range []int{1, frames / 2, frames} {
		r := newRig(t, 120, frames+others, frames)
		r.begin()
		for i := range frames {
			r.write(i, with(r.now[i], i, 3))
		}
		r.commit()
		// These drive so many of the others out, whose records are durable: nothing makes them so too.
		for i := range others {
			r.read(frames + i)
		}
		if r.d.Pending() < others {
			t.Fatalf("%d writes are on their way", r.d.Pending())
		}
		r.begin()
		for i := range others {
			r.write(frames+i, with(r.now[frames+i], i, 3))
		}
		room := r.s.Room()
		answers(t, "Checkpoint", r.s.Checkpoint(), api.OK)
		if took := room - r.s.Room(); took > 100+10*(frames+others) {
			t.Errorf("a Checkpoint of %d dirty pages takes %d", frames+others, took)
		}
		answers(t, "Restart", r.d.Restart(nil), api.OK)
		if !r.opens() {
			t.Fatal("the store isn't opened")
		}
	}
}

// P12.3: as many pages as there are frames are dirty, in the log's records alone: behind a Checkpoint and a fall they are all there.
func TestCheckpointTellsAll(t *testing.T) {
	for frames := 1; frames <= api.MaxFrames; frames += 21 {
		r := newRig(t, 120, frames, frames)
		for round := range 3 {
			r.begin()
			for i := range frames {
				r.write(i, with(r.now[i], round, 5))
			}
			r.commit()
			room := r.s.Room()
			r.check()
			if took := room - r.s.Room(); took > 100+10*frames {
				t.Errorf("a Checkpoint of %d dirty pages takes %d", frames, took)
			}
			if round > 0 {
				r.begin()
				r.write(0, with(r.now[0], 0, 50))
			}
			answers(t, "Restart", r.d.Restart(nil), api.OK)
			if !r.opens() {
				t.Fatal("the store isn't opened")
			}
		}
	}
}

// P12.5: Room behind Open and behind Begin, wherever in its sector the log ends; the rig sees to it.
func TestRoom(t *testing.T) {
	for _, count := range []int{16, 17, 25} {
		r := newRig(t, count, 2, 2)
		for n := range 700 {
			r.begin()
			r.write(0, with(r.now[0], 0, 1+n%8))
			r.commit()
			if n%3 == 0 && !r.opens() {
				t.Fatal("the store isn't opened")
			}
		}
		for n := range 300 {
			r.begin()
			for range n % 4 {
				r.write(1, with(r.now[1], 3, 1+n))
			}
			r.abort()
		}
	}
}
