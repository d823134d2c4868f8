package fuse

import (
	"math"
	"math/rand"
	"slices"
	"strconv"
	"testing"

	"noggin/api"
)

// mostBorne is the chapter's greatest number of failures, mostPause its greatest pause, last the greatest tick.
const (
	mostBorne = 1000
	mostPause = 1000000
	last      = 1 << 40
)

// What State tells, by the chapter.
const (
	isWhole = 0
	isBlown = 1
	isTried = 2
)

// made is what a fuse is made of.
type made struct{ fails, pause int }

func (m made) text() string {
	return "bears " + strconv.Itoa(m.fails) + ", pause " + strconv.Itoa(m.pause)
}

// may tells whether a fuse may be made of that, by the chapter's words.
func (m made) may() bool {
	wrong := m.fails < 1 || m.fails > mostBorne
	wrong = wrong || m.pause < 1
	wrong = wrong || m.pause > mostPause
	return !wrong
}

// What is done.
const (
	asks = iota
	tellsGood
	tellsBad
)

// deed is one call, and what is wanted of it: of an Ask whether it is let through; and the state then.
type deed struct {
	does  int
	now   int64
	yes   bool
	state int
}

// yes is an Ask that is let through, no is one that isn't.
func yes(now int64, state int) deed { return deed{asks, now, true, state} }

func no(now int64, state int) deed { return deed{asks, now, false, state} }

func bad(now int64, state int) deed { return deed{tellsBad, now, false, state} }

func good() deed { return deed{does: tellsGood} }

// alike is one deed, so often.
func alike(many int, d deed) []deed { return slices.Repeat([]deed{d}, many) }

// row is lists of deeds behind each other.
func row(l ...[]deed) []deed { return slices.Concat(l...) }

func (d deed) text() string {
	at := "(" + strconv.FormatInt(d.now, 10) + ")"
	switch d.does {
	case asks:
		return "Ask" + at
	case tellsBad:
		return "Bad" + at
	}
	return "Good()"
}

// there tells whether there is a tick of that deed.
func (d deed) there() bool { return d.does != tellsGood && d.now >= 0 && d.now <= last }

// byWords is a fuse by the chapter's words: it keeps all that was done since it was told last that it went well, and
// goes through that from one failure that counts to the next Ask that is let through, and on to the next failure.
type byWords struct {
	made
	since []deed
}

// state tells the state and, of one that is blown, the tick at which that was.
func (w *byWords) state() (int, int64) {
	at := -1
	for range w.fails {
		if at = w.next(at, tellsBad, 0); at < 0 {
			return isWhole, 0
		}
	}
	for {
		blew := w.since[at].now
		if at = w.next(at, asks, blew+int64(w.pause)); at < 0 {
			return isBlown, blew
		}
		if at = w.next(at, tellsBad, 0); at < 0 {
			return isTried, 0
		}
	}
}

// next is the place behind at of the next such deed at a tick that there is, and that is no less than from; -1 where
// there is none.
func (w *byWords) next(at, does int, from int64) int {
	for i := at + 1; i < len(w.since); i++ {
		if d := w.since[i]; d.does == does && d.there() && d.now >= from {
			return i
		}
	}
	return -1
}

// do does a deed, and tells it with what is wanted of it.
func (w *byWords) do(d deed) deed {
	was, blew := w.state()
	d.yes = d.does == asks && d.there() && (was == isWhole || was == isBlown && d.now-blew >= int64(w.pause))
	if d.does == tellsGood {
		w.since = nil
	} else {
		w.since = append(w.since, d)
	}
	d.state, _ = w.state()
	return d
}

func newFuse(t *testing.T, m made) *Fuse {
	t.Helper()
	f, err := New(m.fails, m.pause)
	if err != nil || f == nil {
		t.Fatalf("%s: New = %v, %v", m.text(), f, err)
	}
	return f
}

// wantState asks twice: asking turns nothing.
func wantState(t *testing.T, name string, f *Fuse, state int) {
	t.Helper()
	for range 2 {
		if is := f.State(); is != state {
			t.Errorf("%s: State() = %d, want %d", name, is, state)
		}
	}
}

// wantDeed does it, and holds what it answers: ErrClosed itself, or nil.
func wantDeed(t *testing.T, name string, f *Fuse, d deed) {
	t.Helper()
	switch d.does {
	case asks:
		var want error
		if !d.yes {
			want = api.ErrClosed
		}
		if err := f.Ask(d.now); err != want {
			t.Errorf("%s: %s = %v, want %v", name, d.text(), err, want)
		}
	case tellsBad:
		f.Bad(d.now)
	case tellsGood:
		f.Good()
	}
}

func wantDone(t *testing.T, name string, f *Fuse, l ...deed) {
	t.Helper()
	for i, d := range l {
		at := name + ": row " + strconv.Itoa(i)
		wantDeed(t, at, f, d)
		wantState(t, at+": behind "+d.text(), f, d.state)
	}
}

// wantRow is that of a fuse of its own, asked ahead of the first one too, and again of one that is asked nothing but
// behind the last; and it is what the chapter's words lead to.
func wantRow(t *testing.T, m made, l ...deed) {
	t.Helper()
	f := newFuse(t, m)
	wantState(t, m.text()+": at its beginning", f, isWhole)
	wantDone(t, m.text(), f, l...)
	f = newFuse(t, m)
	state := isWhole
	words := byWords{made: m}
	for i, d := range l {
		at := m.text() + ", not asked: row " + strconv.Itoa(i)
		wantDeed(t, at, f, d)
		if is := words.do(d); is != d {
			t.Errorf("%s: by the words %s is %v, want %v", at, d.text(), is, d)
		}
		state = d.state
	}
	wantState(t, m.text()+", not asked till now", f, state)
}

// wantWhole holds that it is whole, and bears just so many failures more. It does nothing to f.
func wantWhole(t *testing.T, name string, f *Fuse, more int) {
	t.Helper()
	wantState(t, name, f, isWhole)
	is := *f
	for n := range more {
		wantDone(t, name+": failure "+strconv.Itoa(n)+" more", &is, yes(7, isWhole))
		is.Bad(7)
	}
	wantState(t, name+": behind as many more as it bears", &is, isBlown)
}

// wantBlown holds that it is blown, at just that tick. It does nothing to f.
func wantBlown(t *testing.T, name string, f *Fuse, m made, blew int64) {
	t.Helper()
	wantState(t, name, f, isBlown)
	is := *f
	from := blew + int64(m.pause)
	wantDone(t, name, &is, no(min(from-1, last), isBlown))
	if from <= last {
		wantDone(t, name, &is, yes(from, isTried))
	}
}

// wantTried holds that it is on trial. It does nothing to f.
func wantTried(t *testing.T, name string, f *Fuse, m made) {
	t.Helper()
	is := *f
	wantState(t, name, &is, isTried)
	wantDone(t, name, &is, no(0, isTried), no(last, isTried), bad(3, isBlown))
	wantBlown(t, name+": told that it didn't go well at 3", &is, m, 3)
}

// wantNew holds what New answers against the chapter's words.
func wantNew(t *testing.T, m made) {
	t.Helper()
	f, err := New(m.fails, m.pause)
	if !m.may() {
		if f != nil || err != api.ErrArg {
			t.Errorf("%s: New = %v, %v, want nil, %v", m.text(), f, err, api.ErrArg)
		}
		return
	}
	if f == nil || err != nil {
		t.Errorf("%s: New = %v, %v", m.text(), f, err)
		return
	}
	if is := f.State(); is != isWhole {
		t.Errorf("%s: State() = %d at its beginning", m.text(), is)
	}
}

// edges are numbers at the ends of what New's may be, and far from them.
func edges() []int {
	return []int{math.MinInt, math.MinInt + 1, math.MinInt32, -mostPause, -mostBorne, -2, -1, 0, 1, 2, 3, 500, 998, 999,
		1000, 1001, 1002, 999998, 999999, 1000000, 1000001, 1000002, 2000000, math.MaxInt32, math.MaxInt - 1, math.MaxInt}
}

// outside are ticks that there aren't.
func outside() []int64 {
	return []int64{math.MinInt64, math.MinInt64 + 1, math.MinInt64 + mostPause, -last - 1, -last, math.MinInt32,
		-mostPause, -5, -2, -1, last + 1, last + 2, last + 5, last + mostPause, 2 * last, math.MaxInt64 - mostPause,
		math.MaxInt64 - 1, math.MaxInt64}
}

// mades are of all kinds.
func mades() []made {
	return []made{{1, 1}, {1, 2}, {1, 5}, {2, 1}, {2, 5}, {3, 7}, {4, 999}, {1, mostPause}, {2, mostPause - 1},
		{3, mostPause}, {999, 3}, {mostBorne, 1}, {mostBorne, mostPause}}
}

// bads are so many failures at a tick, none of which is one too many.
func bads(many int, now int64) []deed { return alike(many, bad(now, isWhole)) }

// blownAt is the way from one that bears no failures yet to one that is blown at a tick.
func (m made) blownAt(now int64) []deed {
	return append(bads(m.fails-1, now), bad(now, isBlown))
}

// P23.1, P1: both of New's numbers at the edges: what is amiss, and what isn't, by hand.
func TestNewByHand(t *testing.T) {
	rows := []struct {
		made
		may bool
	}{
		{made{-1, 5}, false}, {made{0, 5}, false}, {made{1, 5}, true}, {made{2, 5}, true}, {made{999, 5}, true},
		{made{1000, 5}, true}, {made{1001, 5}, false}, {made{1002, 5}, false}, {made{math.MinInt, 5}, false},
		{made{math.MaxInt, 5}, false}, {made{1000000, 5}, false},

		{made{2, -1}, false}, {made{2, 0}, false}, {made{2, 1}, true}, {made{2, 2}, true}, {made{2, 999999}, true},
		{made{2, 1000000}, true}, {made{2, 1000001}, false}, {made{2, 1000002}, false}, {made{2, math.MinInt}, false},
		{made{2, math.MaxInt}, false}, {made{2, 1000}, true}, {made{2, 1001}, true},

		{made{1, 1}, true}, {made{1, 1000000}, true}, {made{1000, 1}, true}, {made{1000, 1000000}, true},
		{made{0, 1}, false}, {made{1, 0}, false}, {made{0, 0}, false}, {made{-1, -1}, false}, {made{0, 1000000}, false},
		{made{1000, 0}, false}, {made{1001, 1000000}, false}, {made{1000, 1000001}, false},
		{made{1001, 1000001}, false}, {made{0, 1000001}, false}, {made{1001, 0}, false},
		{made{math.MinInt, math.MinInt}, false}, {made{math.MaxInt, math.MaxInt}, false},
		{made{math.MinInt, math.MaxInt}, false}, {made{math.MaxInt, math.MinInt}, false},
	}
	for _, r := range rows {
		if r.made.may() != r.may {
			t.Errorf("%s: by the words it may be: %v", r.text(), !r.may)
		}
		wantNew(t, r.made)
	}
}

// P23.1, P1: both of New's numbers at the edges at once, and at random.
func TestNewOfEdges(t *testing.T) {
	for _, fails := range edges() {
		for _, pause := range edges() {
			wantNew(t, made{fails, pause})
		}
	}
	rnd := rand.New(rand.NewSource(1))
	for range 20000 {
		wantNew(t, made{int(rnd.Uint64()) >> rnd.Intn(64), int(rnd.Uint64()) >> rnd.Intn(64)})
	}
}

// P23.1: each number of failures, and each pause, that may be or is near to what may be.
func TestNewOfEach(t *testing.T) {
	for n := -70; n <= mostPause+70; n++ {
		wantNew(t, made{n, 5})
		wantNew(t, made{2, n})
		wantNew(t, made{n, n})
	}
}

// P23.1: an error is ErrArg itself, each time, and what was made ahead of it goes on.
func TestNewThatFailsTouchesNone(t *testing.T) {
	f := newFuse(t, made{2, 5})
	for _, d := range []deed{bad(1, isWhole), yes(1, isWhole), bad(2, isBlown), no(6, isBlown), yes(7, isTried),
		no(8, isTried), bad(8, isBlown), no(12, isBlown), yes(13, isTried), good(), bad(9, isWhole), bad(9, isBlown)} {
		for _, m := range []made{{0, 5}, {-1, 5}, {1001, 5}, {2, 0}, {2, -1}, {2, mostPause + 1}, {0, 0}} {
			wantNew(t, m)
		}
		wantDone(t, "behind New that fails", f, d)
	}
}

// P23.1, P23.2: the chapter's example.
func TestExample(t *testing.T) {
	wantRow(t, made{1, 5}, bad(0, isBlown), no(4, isBlown), yes(5, isTried), no(5, isTried))
}

// P23.1: at its beginning it is whole: all are let through, and it stays whole.
func TestAskOfAWholeOne(t *testing.T) {
	for _, m := range mades() {
		wantRow(t, m, yes(0, isWhole), yes(0, isWhole), yes(9, isWhole), yes(last, isWhole), yes(1, isWhole))
		few := m.fails - 1
		for _, now := range []int64{0, 1, 4, 5, 6, int64(m.pause), 5 + int64(m.pause), last - 1, last} {
			wantRow(t, m, alike(3, yes(now, isWhole))...)
			wantRow(t, m, row(bads(few, 5), alike(3, yes(now, isWhole)), []deed{bad(5, isBlown)})...)
		}
		f := newFuse(t, m)
		wantWhole(t, m.text()+": at its beginning", f, m.fails)
		for range 3000 {
			wantDeed(t, m.text(), f, yes(6, 0))
		}
		// That many were let through leaves no trace.
		wantWhole(t, m.text()+": asked", f, m.fails)
	}
}

// P23.1, P23.2: a blown one, asked within the pause and behind it.
func TestAskOfABlownOne(t *testing.T) {
	for _, m := range mades() {
		pause := int64(m.pause)
		for _, blew := range []int64{0, 1, 50, mostPause, last - mostPause - 7, last - pause} {
			blown := m.blownAt(blew)
			from := blew + pause
			for _, now := range []int64{0, blew / 2, blew - 1, blew, from - pause/2 - 1, from - 2, from - 1} {
				if now >= 0 && now < from {
					wantRow(t, m, row(blown, alike(4, no(now, isBlown)), []deed{yes(from, isTried)})...)
				}
			}
			for _, now := range []int64{from, from + 1, from + 2, from + pause, last - 1, last} {
				if now >= from && now <= last {
					wantRow(t, m, row(blown, []deed{yes(now, isTried), no(now, isTried)})...)
				}
			}
		}
	}
}

// P23.1, P23.2: each tick of a short pause, asked of a fuse of its own and of one that was asked at all others.
func TestEachTickOfAPause(t *testing.T) {
	for fails := 1; fails <= 3; fails++ {
		for pause := 1; pause <= 40; pause++ {
			m := made{fails, pause}
			for blew := range int64(12) {
				f := newFuse(t, m)
				wantDone(t, m.text(), f, m.blownAt(blew)...)
				for now := range blew + int64(pause) {
					wantDone(t, m.text(), f, no(now, isBlown))
				}
				for now := range int64(60) {
					of := *f
					if now >= blew+int64(pause) {
						wantDone(t, m.text(), &of, yes(now, isTried), no(now, isTried))
					} else {
						wantDone(t, m.text(), &of, no(now, isBlown))
					}
				}
			}
		}
	}
}

// P23.1, P23.2: one on trial lets none through, at any tick, as often as it is asked.
func TestAskOfOneOnTrial(t *testing.T) {
	for _, m := range mades() {
		from := 50 + int64(m.pause)
		tried := row(m.blownAt(50), []deed{yes(from, isTried)})
		for _, now := range []int64{0, 1, 49, 50, 51, from - 1, from, from + 1, from + int64(m.pause), last - 1, last} {
			wantRow(t, m, row(tried, alike(5, no(now, isTried)))...)
			wantRow(t, m, row(tried, alike(5, no(now, isTried)), []deed{good(), yes(now, isWhole), yes(0, isWhole)})...)
		}
		f := newFuse(t, m)
		wantDone(t, m.text(), f, tried...)
		for now := range int64(3000) {
			wantDeed(t, m.text(), f, no(now*now, 0))
		}
		wantTried(t, m.text()+": asked", f, m)
	}
}

// P23.1, P1: asked at a tick that there isn't, it is ErrClosed, and nothing else: the state, the failures that it
// counts, and the tick at which it was blown are as they were.
func TestAskOutside(t *testing.T) {
	for _, m := range mades() {
		from := 20 + int64(m.pause)
		for _, now := range outside() {
			name := m.text() + ": Ask(" + strconv.FormatInt(now, 10) + ")"
			f := newFuse(t, m)
			wantDone(t, name, f, alike(3, no(now, isWhole))...)
			wantWhole(t, name, f, m.fails)
			wantDone(t, name, f, row(bads(m.fails-1, 20), alike(3, no(now, isWhole)))...)
			wantWhole(t, name, f, 1)
			wantDone(t, name, f, row([]deed{bad(20, isBlown)}, alike(3, no(now, isBlown)))...)
			wantBlown(t, name, f, m, 20)
			wantDone(t, name, f, row([]deed{yes(from, isTried)}, alike(3, no(now, isTried)))...)
			wantTried(t, name, f, m)
			wantDone(t, name, f, good(), no(now, isWhole), yes(0, isWhole))
			wantWhole(t, name, f, m.fails)
		}
	}
}

// P23.1: the ticks at the ends of those that there are, whole, blown and on trial.
func TestAskAtTheEnds(t *testing.T) {
	wantRow(t, made{1, 5}, no(-1, isWhole), yes(0, isWhole), yes(last, isWhole), no(last+1, isWhole),
		no(math.MinInt64, isWhole), no(math.MaxInt64, isWhole), bad(0, isBlown), no(-1, isBlown), no(0, isBlown),
		no(last+1, isBlown), no(math.MinInt64, isBlown), no(math.MaxInt64, isBlown), yes(last, isTried),
		no(-1, isTried), no(0, isTried), no(last, isTried), no(last+1, isTried), no(math.MinInt64, isTried),
		no(math.MaxInt64, isTried), good(), no(-1, isWhole), yes(0, isWhole))
	wantRow(t, made{1, 1}, bad(0, isBlown), no(0, isBlown), yes(1, isTried), bad(0, isBlown), no(-1, isBlown),
		no(0, isBlown), yes(1, isTried), bad(last, isBlown), no(last, isBlown), no(last+1, isBlown), no(0, isBlown))
}

// P23.1: a whole one is blown at just the failure that it bears no more, and at the tick of that.
func TestBadOfAWholeOne(t *testing.T) {
	wantRow(t, made{1, 5}, bad(3, isBlown), no(7, isBlown), yes(8, isTried))
	wantRow(t, made{2, 5}, bad(9, isWhole), yes(9, isWhole), bad(3, isBlown), no(7, isBlown), yes(8, isTried))
	wantRow(t, made{3, 5}, bad(9, isWhole), bad(1, isWhole), yes(2, isWhole), bad(3, isBlown), no(7, isBlown),
		yes(8, isTried))
	wantRow(t, made{4, 5}, bad(0, isWhole), bad(0, isWhole), bad(0, isWhole), yes(0, isWhole), bad(0, isBlown),
		no(4, isBlown), yes(5, isTried))
	for fails := 1; fails <= mostBorne; fails++ {
		m := made{fails, 5}
		f := newFuse(t, m)
		for n := 1; n < fails; n++ {
			wantDeed(t, m.text(), f, bad(int64(n), 0))
			if f.State() != isWhole {
				t.Fatalf("%s: State() = %d behind %d failures", m.text(), f.State(), n)
			}
		}
		wantWhole(t, m.text(), f, 1)
		wantDone(t, m.text(), f, bad(3, isBlown))
		wantBlown(t, m.text(), f, m, 3)
	}
}

// P23.1: of one on trial one failure is enough, whatever it bears, and the pause is counted from there.
func TestBadOfOneOnTrial(t *testing.T) {
	wantRow(t, made{2, 5}, bad(1, isWhole), bad(1, isBlown), yes(6, isTried), bad(20, isBlown), no(6, isBlown),
		no(24, isBlown), yes(25, isTried), bad(25, isBlown), no(29, isBlown), yes(30, isTried))
	wantRow(t, made{3, 1}, bad(1, isWhole), bad(1, isWhole), bad(1, isBlown), yes(2, isTried), bad(2, isBlown),
		no(2, isBlown), yes(3, isTried), bad(3, isBlown), no(3, isBlown), yes(4, isTried))
	for _, m := range mades() {
		from := 50 + int64(m.pause)
		for _, now := range []int64{0, 1, 49, 50, 51, from - 1, from, from + 1, from + mostPause, last - 1, last} {
			f := newFuse(t, m)
			wantDone(t, m.text(), f, row(m.blownAt(50), []deed{yes(from, isTried), bad(now, isBlown)})...)
			wantBlown(t, m.text()+": told at "+strconv.FormatInt(now, 10), f, m, now)
		}
	}
}

// P23.1: a blown one is told of a failure in vain: the tick at which it was blown stays, and nothing is counted.
func TestBadOfABlownOne(t *testing.T) {
	wantRow(t, made{1, 5}, bad(10, isBlown), bad(12, isBlown), bad(3, isBlown), no(14, isBlown), yes(15, isTried))
	for _, m := range mades() {
		for _, now := range []int64{0, 1, 49, 50, 51, 49 + int64(m.pause), 50 + int64(m.pause), last - 1, last} {
			for _, many := range []int{1, 2, m.fails - 1, m.fails, m.fails + 1} {
				name := m.text() + ": told at " + strconv.FormatInt(now, 10)
				f := newFuse(t, m)
				wantDone(t, name, f, row(m.blownAt(50), alike(many, bad(now, isBlown)))...)
				wantBlown(t, name, f, m, 50)
				wantDone(t, name, f, good())
				wantWhole(t, name, f, m.fails)
			}
		}
	}
}

// P23.1, P1: told of a failure at a tick that there isn't, it does nothing.
func TestBadOutside(t *testing.T) {
	for _, m := range mades() {
		from := 20 + int64(m.pause)
		for _, now := range outside() {
			name := m.text() + ": Bad(" + strconv.FormatInt(now, 10) + ")"
			f := newFuse(t, m)
			wantDone(t, name, f, alike(m.fails+2, bad(now, isWhole))...)
			wantWhole(t, name, f, m.fails)
			wantDone(t, name, f, row(bads(m.fails-1, 20), alike(3, bad(now, isWhole)))...)
			wantWhole(t, name, f, 1)
			wantDone(t, name, f, row([]deed{bad(20, isBlown)}, alike(3, bad(now, isBlown)))...)
			wantBlown(t, name, f, m, 20)
			wantDone(t, name, f, row([]deed{yes(from, isTried)}, alike(3, bad(now, isTried)))...)
			wantTried(t, name, f, m)
			wantDone(t, name, f, good(), bad(now, isWhole))
			wantWhole(t, name, f, m.fails)
		}
	}
}

// P23.1: the ticks at the ends of those that there are, of a failure.
func TestBadAtTheEnds(t *testing.T) {
	for _, now := range []int64{0, 1, last - 1, last} {
		for _, m := range mades() {
			f := newFuse(t, m)
			wantDone(t, m.text(), f, m.blownAt(now)...)
			wantBlown(t, m.text()+": blown at "+strconv.FormatInt(now, 10), f, m, now)
		}
	}
	wantRow(t, made{1, 1}, bad(-1, isWhole), bad(last+1, isWhole), bad(last, isBlown), bad(-1, isBlown),
		bad(last+1, isBlown), no(last, isBlown), no(0, isBlown), good(), bad(0, isBlown), yes(1, isTried),
		bad(-1, isTried), bad(last+1, isTried), bad(math.MinInt64, isTried), bad(math.MaxInt64, isTried),
		bad(0, isBlown), yes(1, isTried), bad(last, isBlown), no(last, isBlown))
}

// P23.1: told that it went well, it is whole, and counts no failures, whatever it was.
func TestGood(t *testing.T) {
	wantRow(t, made{2, 5}, good(), good(), bad(1, isWhole), good(), bad(2, isWhole), good(), good(), bad(3, isWhole),
		bad(3, isBlown), good(), yes(3, isWhole), bad(3, isWhole), bad(4, isBlown), no(8, isBlown), yes(9, isTried),
		good(), yes(9, isWhole), yes(9, isWhole), bad(9, isWhole), bad(10, isBlown), no(14, isBlown), yes(15, isTried),
		bad(15, isBlown), good(), bad(0, isWhole), yes(0, isWhole), bad(0, isBlown), no(4, isBlown))
	for _, m := range mades() {
		f := newFuse(t, m)
		f.Good()
		wantWhole(t, m.text()+": behind none", f, m.fails)
		for _, few := range []int{0, 1, m.fails / 2, m.fails - 1} {
			wantDone(t, m.text(), f, row(bads(min(few, m.fails-1), 5), []deed{good()})...)
			wantWhole(t, m.text()+": behind "+strconv.Itoa(few)+" failures", f, m.fails)
		}
		wantDone(t, m.text(), f, row(m.blownAt(50), []deed{good(), yes(50, isWhole), yes(0, isWhole)})...)
		wantWhole(t, m.text()+": behind a blown one", f, m.fails)
		tried := row(m.blownAt(50), []deed{yes(last, isTried)})
		wantDone(t, m.text(), f, row(tried, []deed{good(), yes(50, isWhole), yes(0, isWhole)})...)
		wantWhole(t, m.text()+": behind one on trial", f, m.fails)
		again := row(tried, []deed{bad(40, isBlown), yes(last, isTried), bad(30, isBlown)})
		wantDone(t, m.text(), f, row(again, []deed{good(), good(), yes(0, isWhole)})...)
		wantWhole(t, m.text()+": behind one that was blown again", f, m.fails)
	}
}

// P23.1: one that went well is as one that is new, whatever was done to it.
func TestGoodAsNew(t *testing.T) {
	rnd := rand.New(rand.NewSource(2))
	for range 500 {
		m := anyMade(rnd)
		old, fresh := newFuse(t, m), newFuse(t, m)
		words := byWords{made: m}
		for range rnd.Intn(60) {
			wantDeed(t, m.text(), old, words.do(anyDeed(rnd, &words)))
		}
		words.do(good())
		old.Good()
		for range 60 {
			d := words.do(anyDeed(rnd, &words))
			wantDone(t, m.text()+": behind Good", old, d)
			wantDone(t, m.text()+": new", fresh, d)
		}
	}
}

// P23.1: ticks need not rise from call to call: each counts by itself.
func TestTicksThatFall(t *testing.T) {
	wantRow(t, made{1, 5}, yes(100, isWhole), bad(50, isBlown), no(54, isBlown), no(3, isBlown), yes(55, isTried),
		no(20, isTried), bad(10, isBlown), no(14, isBlown), yes(15, isTried), bad(90, isBlown), no(55, isBlown),
		no(94, isBlown), no(15, isBlown), yes(95, isTried), bad(0, isBlown), no(4, isBlown), yes(200, isTried))
	wantRow(t, made{3, 10}, bad(30, isWhole), bad(20, isWhole), yes(5, isWhole), bad(10, isBlown), no(19, isBlown),
		bad(0, isBlown), no(10, isBlown), no(19, isBlown), yes(40, isTried), bad(5, isBlown), no(14, isBlown),
		yes(15, isTried))
	wantRow(t, made{2, 5}, bad(0, isWhole), bad(30, isBlown), no(5, isBlown), no(34, isBlown), yes(35, isTried))
	wantRow(t, made{2, 5}, bad(30, isWhole), bad(0, isBlown), no(4, isBlown), yes(5, isTried))
}

// P23.1, P1: the greatest pause near the greatest tick: blown too near to it, it lets none through till it is told
// that it went well.
func TestPauseBeyondTheLastTick(t *testing.T) {
	m := made{1, mostPause}
	wantRow(t, m, bad(last-mostPause, isBlown), no(last-1, isBlown), yes(last, isTried), no(last, isTried),
		bad(last, isBlown), no(last, isBlown), no(0, isBlown), good(), yes(last, isWhole))
	wantRow(t, m, bad(last-mostPause-1, isBlown), no(last-2, isBlown), yes(last-1, isTried))
	wantRow(t, m, bad(last-mostPause-1, isBlown), yes(last, isTried))
	wantRow(t, m, bad(last-mostPause+1, isBlown), no(last-1, isBlown), no(last, isBlown), no(last+1, isBlown),
		no(last+mostPause, isBlown), no(math.MaxInt64, isBlown), bad(0, isBlown), no(mostPause, isBlown), good())
	wantRow(t, m, bad(last, isBlown), no(last, isBlown), no(last+mostPause, isBlown), no(0, isBlown), good(),
		bad(last-1, isBlown), no(last, isBlown))
	wantRow(t, made{1, 1}, bad(last-1, isBlown), no(last-1, isBlown), yes(last, isTried), bad(last, isBlown),
		no(last, isBlown), no(last+1, isBlown))
	wantRow(t, made{1, 5}, bad(last-5, isBlown), no(last-1, isBlown), yes(last, isTried), bad(last-4, isBlown),
		no(last, isBlown), no(last+1, isBlown), good(), bad(last-6, isBlown), yes(last-1, isTried))
}

// P23.1: State, behind each call, and asked any number of times: it turns nothing.
func TestState(t *testing.T) {
	rnd := rand.New(rand.NewSource(3))
	for range 500 {
		m := anyMade(rnd)
		asked, told := newFuse(t, m), newFuse(t, m)
		words := byWords{made: m}
		for range 80 {
			d := words.do(anyDeed(rnd, &words))
			for range rnd.Intn(5) {
				asked.State()
			}
			wantDone(t, m.text()+": asked", asked, d)
			wantDeed(t, m.text()+": not asked", told, d)
		}
		state, _ := words.state()
		wantState(t, m.text()+": not asked till now", told, state)
	}
}

// P23.1: two fuses know nothing of each other, whether they are made of the same numbers or of others.
func TestTwoByHand(t *testing.T) {
	a, b, c := newFuse(t, made{2, 5}), newFuse(t, made{2, 5}), newFuse(t, made{1, 9})
	wantDone(t, "a", a, bad(1, isWhole))
	wantDone(t, "b", b, bad(1, isWhole))
	wantDone(t, "a", a, bad(3, isBlown))
	wantDone(t, "b", b, yes(3, isWhole))
	wantDone(t, "c", c, yes(3, isWhole), bad(4, isBlown))
	wantDone(t, "b", b, bad(6, isBlown))
	wantDone(t, "a", a, yes(8, isTried))
	wantDone(t, "c", c, no(8, isBlown))
	wantDone(t, "b", b, no(10, isBlown), yes(11, isTried))
	b.Good()
	wantState(t, "a, behind b's Good", a, isTried)
	wantState(t, "c, behind b's Good", c, isBlown)
	wantDone(t, "a", a, no(20, isTried), bad(20, isBlown))
	wantDone(t, "b", b, yes(20, isWhole), bad(20, isWhole))
	wantDone(t, "c", c, no(12, isBlown), yes(13, isTried))
	wantDone(t, "d, new", newFuse(t, made{2, 5}), yes(0, isWhole), bad(0, isWhole))
	wantDone(t, "b", b, bad(21, isBlown))
	wantBlown(t, "a", a, made{2, 5}, 20)
	wantBlown(t, "b", b, made{2, 5}, 21)
	wantTried(t, "c", c, made{1, 9})
}

// P23.1: many fuses, told in turn, each as if it were alone; some are made while the others are under way.
func TestApart(t *testing.T) {
	rnd := rand.New(rand.NewSource(4))
	for range 40 {
		fuses, words := []*Fuse{}, []*byWords{}
		m := anyMade(rnd)
		for n := range 400 {
			if n%80 == 0 {
				fuses, words = append(fuses, newFuse(t, m)), append(words, &byWords{made: m})
				if n%160 == 0 {
					m = anyMade(rnd)
				}
			}
			at := rnd.Intn(len(fuses))
			wantDeed(t, words[at].text(), fuses[at], words[at].do(anyDeed(rnd, words[at])))
			for i, f := range fuses {
				if want, _ := words[i].state(); f.State() != want {
					t.Fatalf("fuse %d, behind a deed of fuse %d: State() = %d, want %d", i, at, f.State(), want)
				}
			}
		}
	}
}

// watch holds a fuse to what follows, by its answers alone.
type watch struct {
	made
	blew int64 // the tick at which it was told of what it was blown by
}

// wantLetThrough is one deed: none is let through within the pause, and behind it just one, till that is told of.
func (w *watch) wantLetThrough(t *testing.T, f *Fuse, d deed) {
	t.Helper()
	was := f.State()
	switch d.does {
	case tellsGood:
		f.Good()
	case tellsBad:
		f.Bad(d.now)
		if was != isBlown && f.State() == isBlown {
			w.blew = d.now
		}
		if was == isBlown && f.State() != isBlown || was == isTried && d.there() && f.State() != isBlown {
			t.Fatalf("%s: %s leads from %d to %d", w.text(), d.text(), was, f.State())
		}
	case asks:
		through := f.Ask(d.now) == nil
		switch {
		case through && was == isBlown && (d.now-w.blew < int64(w.pause) || f.State() != isTried):
			t.Fatalf("%s: %s is let through, blown at %d; it is %d then", w.text(), d.text(), w.blew, f.State())
		case through && was == isTried:
			t.Fatalf("%s: %s is let through on trial", w.text(), d.text())
		case !through && f.State() != was:
			t.Fatalf("%s: %s isn't let through, but leads from %d to %d", w.text(), d.text(), was, f.State())
		case !through && was == isBlown && d.there() && d.now-w.blew >= int64(w.pause):
			t.Fatalf("%s: %s isn't let through, blown at %d", w.text(), d.text(), w.blew)
		}
	}
}

// P23.1, P23.2: all lists of six of a few deeds, against the chapter's words and what follows from them.
func TestAllShortLists(t *testing.T) {
	each := []deed{{does: asks, now: 1}, {does: asks, now: 2}, {does: asks, now: 3}, {does: asks, now: -1},
		{does: tellsGood}, {does: tellsBad, now: 0}, {does: tellsBad, now: 1}, {does: tellsBad, now: -1}}
	for _, m := range []made{{1, 1}, {1, 2}, {1, 3}, {2, 1}, {2, 2}, {3, 1}} {
		allLists(t, each, 6, newFuse(t, m), byWords{made: m}, watch{made: m})
	}
}

// allLists goes on from a fuse by each of the deeds, and from there by each, so deep.
func allLists(t *testing.T, each []deed, deep int, f *Fuse, words byWords, over watch) {
	if deep == 0 {
		return
	}
	for _, d := range each {
		is, of, next := *f, words, over
		of.since = slices.Clone(of.since)
		d = of.do(d)
		wantDeed(t, of.text(), &is, d)
		if is.State() != d.state {
			t.Fatalf("%s: State() = %d behind %v, want %d", of.text(), is.State(), of.since, d.state)
		}
		watched := *f
		next.wantLetThrough(t, &watched, d)
		allLists(t, each, deep-1, &is, of, next)
	}
}

// P23.1, P23.2, P1: fuses, deeds and ticks at random, each told against the chapter's words worked out apart.
func TestAtRandom(t *testing.T) {
	rnd := rand.New(rand.NewSource(5))
	states := map[int]int{}
	for range 4000 {
		m := anyMade(rnd)
		f, words := newFuse(t, m), byWords{made: m}
		for range rnd.Intn(100) {
			d := words.do(anyDeed(rnd, &words))
			wantDone(t, m.text(), f, d)
			states[d.state]++
		}
		if t.Failed() {
			return
		}
	}
	for state := isWhole; state <= isTried; state++ {
		if states[state] < 5000 {
			t.Errorf("%d deeds only led to state %d", states[state], state)
		}
	}
}

// P23.2: fuses, pauses and ticks at random: while it is blown nothing is let through within the pause, and behind it
// just one, till that is told of.
func TestWhatFollows(t *testing.T) {
	rnd := rand.New(rand.NewSource(6))
	for range 4000 {
		m := anyMade(rnd)
		f, words, over := newFuse(t, m), byWords{made: m}, watch{made: m}
		for range rnd.Intn(100) {
			d := words.do(anyDeed(rnd, &words))
			over.wantLetThrough(t, f, d)
		}
	}
}

// P23.2: many ask at once behind the pause: one is let through, tick by tick, as often as it doesn't go well.
func TestJustOneBehindEachPause(t *testing.T) {
	for _, m := range mades() {
		f := newFuse(t, m)
		wantDone(t, m.text(), f, m.blownAt(0)...)
		now := int64(0)
		for range 20 {
			through := 0
			for _, at := range []int64{0, 1, int64(m.pause) - 1, int64(m.pause), int64(m.pause), int64(m.pause) + 1} {
				if f.Ask(now+at) == nil {
					through++
				}
			}
			if through != 1 {
				t.Fatalf("%s: %d were let through behind a pause", m.text(), through)
			}
			now += int64(m.pause) + 3
			f.Bad(now)
			wantState(t, m.text(), f, isBlown)
		}
	}
}

// anyMade is one of any size; most bear few, so that they are blown often.
func anyMade(rnd *rand.Rand) made {
	m := made{1 + rnd.Intn(4), 1 + rnd.Intn(mostPause)>>rnd.Intn(20)}
	if rnd.Intn(8) == 0 {
		m.fails = 1 + rnd.Intn(30)
	}
	return m
}

// anyDeed is one at a tick near to what counts, or at any.
func anyDeed(rnd *rand.Rand, w *byWords) deed {
	d := deed{does: asks, now: anyTick(rnd, w)}
	switch rnd.Intn(20) {
	case 0:
		return good()
	case 1, 2, 3, 4, 5, 6, 7, 8, 9:
		d.does = tellsBad
	}
	return d
}

// anyTick is one at the tick at which it was blown, or at the pause's end, or near to these, or to the ends of those
// that there are, or any.
func anyTick(rnd *rand.Rand, w *byWords) int64 {
	_, blew := w.state()
	near := int64(rnd.Intn(5)) - 2
	switch rnd.Intn(10) {
	case 0, 1, 2, 3:
		return blew + int64(w.pause) + near
	case 4, 5:
		return blew + near
	case 6:
		return last + near
	case 7:
		return last - int64(w.pause) + near
	case 8:
		return near
	}
	return int64(rnd.Uint64()) >> rnd.Intn(64)
}
