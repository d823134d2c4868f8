package mark

import (
	"math"
	"math/rand"
	"slices"
	"strconv"
	"testing"

	"noggin/api"
)

// most is the greatest time, tick, lateness and idle time that there is.
const most = 1099511627776

// made is what a mark is made of.
type made struct{ lateness, idle int64 }

func (m made) text() string { return "lateness " + dec(m.lateness) + ", idle " + dec(m.idle) }

func dec(n int64) string { return strconv.FormatInt(n, 10) }

// may tells whether a mark may be made of that, by the chapter's words.
func (m made) may() bool {
	wrong := m.lateness < 0
	wrong = wrong || m.lateness > most
	wrong = wrong || m.idle < 1
	wrong = wrong || m.idle > most
	return !wrong
}

// deed is one See, or one Tick.
type deed struct {
	tick      bool
	now, time int64
}

func see(now, time int64) deed { return deed{false, now, time} }

func tick(now int64) deed { return deed{true, now, 0} }

func (d deed) text() string {
	if d.tick {
		return "Tick(" + dec(d.now) + ")"
	}
	return "See(" + dec(d.now) + ", " + dec(d.time) + ")"
}

func texts(l []deed) string {
	s := ""
	for _, d := range l {
		s += " " + d.text()
	}
	return s
}

// do is a deed done to a mark.
func do(m *Mark, d deed) bool {
	if d.tick {
		return m.Tick(d.now)
	}
	return m.See(d.now, d.time)
}

// byWords is a mark by the chapter's words: it keeps all that it was told, and works all out from that anew.
type byWords struct {
	made
	told []deed
}

// tell tells whether a deed may be told, and keeps it if so.
func (w *byWords) tell(d deed) bool {
	if d.now < 0 || d.now > most {
		return false
	}
	if !d.tick && (d.time < 0 || d.time > most) {
		return false
	}
	for _, was := range w.told {
		if d.now < was.now {
			return false
		}
	}
	w.told = append(w.told, d)
	return true
}

// sawAt is the tick at which it saw something last among the first of its deeds, if it saw something.
func (w *byWords) sawAt(first int) (int64, bool) {
	for i := first - 1; i >= 0; i-- {
		if !w.told[i].tick {
			return w.told[i].now, true
		}
	}
	return 0, false
}

// idleAt tells whether its deed of that place is a tick at which it is idle.
func (w *byWords) idleAt(i int) bool {
	at, saw := w.sawAt(i)
	return w.told[i].tick && saw && w.told[i].now >= at+w.idle
}

// greatest is the greatest time behind all of its deeds.
func (w *byWords) greatest() int64 {
	great := int64(0)
	for i, d := range w.told {
		if !d.tick && d.time > great {
			great = d.time
		}
		if w.idleAt(i) {
			great += d.now - w.told[i-1].now
			if great > most {
				great = most
			}
		}
	}
	return great
}

func (w *byWords) at() int64 {
	if _, saw := w.sawAt(len(w.told)); !saw {
		return 0
	}
	if w.greatest() < w.lateness {
		return 0
	}
	return w.greatest() - w.lateness
}

// bySteps is a mark by the chapter's words, deed by deed, for lists too long to be worked out anew at each.
type bySteps struct {
	made
	great int64
	// ticks are all that it was told, of which saws are those at which it saw something.
	ticks, saws []int64
}

func lastOf(l []int64) int64 { return l[len(l)-1] }

func (s *bySteps) tell(d deed) bool {
	if d.now < 0 || d.now > most || len(s.ticks) > 0 && d.now < lastOf(s.ticks) {
		return false
	}
	if !d.tick {
		if d.time < 0 || d.time > most {
			return false
		}
		if d.time > s.great {
			s.great = d.time
		}
		s.saws = append(s.saws, d.now)
	} else if len(s.saws) > 0 && d.now-lastOf(s.saws) >= s.idle {
		grown := d.now - lastOf(s.ticks)
		if room := most - s.great; grown > room {
			grown = room
		}
		s.great += grown
	}
	s.ticks = append(s.ticks, d.now)
	return true
}

func (s *bySteps) at() int64 {
	if len(s.saws) == 0 || s.great < s.lateness {
		return 0
	}
	return s.great - s.lateness
}

func newMark(t *testing.T, m made) *Mark {
	t.Helper()
	mark, err := New(m.lateness, m.idle)
	if err != nil || mark == nil {
		t.Fatalf("%s: New = %v, %v", m.text(), mark, err)
	}
	return mark
}

// wantAt asks twice: asking turns nothing.
func wantAt(t *testing.T, name string, m *Mark, at int64) {
	t.Helper()
	for range 2 {
		if is := m.At(); is != at {
			t.Errorf("%s: At() = %d, want %d", name, is, at)
		}
	}
}

// done is a deed, whether it may be, and where it stands then.
type done struct {
	deed
	may bool
	at  int64
}

func saw(now, time, at int64) done { return done{see(now, time), true, at} }

func ticked(now, at int64) done { return done{tick(now), true, at} }

func refused(d deed, at int64) done { return done{d, false, at} }

func wantDone(t *testing.T, name string, m *Mark, l ...done) {
	t.Helper()
	for i, d := range l {
		if is := do(m, d.deed); is != d.may {
			t.Errorf("%s: row %d: %s = %v, want %v", name, i, d.text(), is, d.may)
		}
		wantAt(t, name+": behind row "+strconv.Itoa(i)+", "+d.text(), m, d.at)
	}
}

// wantRow is that of a mark of its own, of the words too, and again of one that is asked nothing but behind the last,
// and of one that isn't told what is refused.
func wantRow(t *testing.T, m made, l ...done) {
	t.Helper()
	asked := newMark(t, m)
	wantAt(t, m.text()+": at its beginning", asked, 0)
	wantDone(t, m.text(), asked, l...)
	last := int64(0)
	words, unasked, spared := &byWords{made: m}, newMark(t, m), newMark(t, m)
	for i, d := range l {
		last = d.at
		if is := words.tell(d.deed); is != d.may || words.at() != d.at {
			t.Errorf("%s: row %d: by the words %s is %v, and it stands at %d", m.text(), i, d.text(), is, words.at())
		}
		if is := do(unasked, d.deed); is != d.may {
			t.Errorf("%s, not asked: row %d: %s = %v, want %v", m.text(), i, d.text(), is, d.may)
		}
		if d.may && !do(spared, d.deed) {
			t.Errorf("%s, without what is refused: row %d: %s = false", m.text(), i, d.text())
		}
	}
	wantAt(t, m.text()+", not asked till now", unasked, last)
	wantAt(t, m.text()+", without what is refused", spared, last)
}

// edges are numbers at the ends of what may be, and far from them.
func edges() []int64 {
	return []int64{math.MinInt64, math.MinInt64 + 1, -most - 1, -most, math.MinInt32, -2, -1, 0, 1, 2, 5, 1000,
		math.MaxInt32, math.MaxUint32, most / 2, most - 1, most, most + 1, most + 2, 2 * most, math.MaxInt64 - most,
		math.MaxInt64 - 1, math.MaxInt64}
}

// wantNew holds what New answers against the chapter's words.
func wantNew(t *testing.T, m made) {
	t.Helper()
	mark, err := New(m.lateness, m.idle)
	if !m.may() {
		if mark != nil || err != api.ErrArg {
			t.Errorf("%s: New = %v, %v, want nil, %v", m.text(), mark, err, api.ErrArg)
		}
		return
	}
	if mark == nil || err != nil {
		t.Errorf("%s: New = %v, %v", m.text(), mark, err)
		return
	}
	wantAt(t, m.text()+": at its beginning", mark, 0)
}

// P19.1: MaxTime is the document's.
func TestMaxTime(t *testing.T) {
	if api.MaxTime != most {
		t.Errorf("MaxTime is %d, want %d", int64(api.MaxTime), int64(most))
	}
}

// P19.1, P1: a lateness and an idle time at their edges: what is amiss, and what isn't, by hand.
func TestNewByHand(t *testing.T) {
	rows := []struct {
		made
		may bool
	}{
		{made{0, 10}, true}, {made{1, 10}, true}, {made{5, 10}, true}, {made{most - 1, 10}, true},
		{made{most, 10}, true}, {made{-1, 10}, false}, {made{-5, 10}, false}, {made{most + 1, 10}, false},
		{made{2 * most, 10}, false}, {made{math.MinInt64, 10}, false}, {made{math.MaxInt64, 10}, false},

		{made{5, 1}, true}, {made{5, 2}, true}, {made{5, most - 1}, true}, {made{5, most}, true},
		{made{5, 0}, false}, {made{5, -1}, false}, {made{5, most + 1}, false}, {made{5, 2 * most}, false},
		{made{5, math.MinInt64}, false}, {made{5, math.MaxInt64}, false},

		{made{0, 1}, true}, {made{0, most}, true}, {made{most, 1}, true}, {made{most, most}, true},
		{made{0, 0}, false}, {made{-1, 0}, false}, {made{-1, 1}, false}, {made{0, -1}, false},
		{made{most, 0}, false}, {made{most + 1, most + 1}, false}, {made{most + 1, 0}, false},
		{made{-1, most + 1}, false}, {made{-1, most}, false}, {made{0, most + 1}, false}, {made{most + 1, most}, false},
		{made{most, most + 1}, false}, {made{math.MinInt64, math.MinInt64}, false},
		{made{math.MaxInt64, math.MaxInt64}, false}, {made{math.MinInt64, math.MaxInt64}, false},
		{made{math.MaxInt64, math.MinInt64}, false},
	}
	for _, r := range rows {
		if r.made.may() != r.may {
			t.Errorf("%s: by the words it may be: %v", r.text(), !r.may)
		}
		wantNew(t, r.made)
	}
}

// P19.1, P1: both of New's numbers at the edges at once, near to them, and at random.
func TestNewOfAll(t *testing.T) {
	for _, lateness := range edges() {
		for _, idle := range edges() {
			wantNew(t, made{lateness, idle})
		}
	}
	for n := int64(-100); n <= 100; n++ {
		wantNew(t, made{n, 10})
		wantNew(t, made{5, n})
		wantNew(t, made{n, n})
		wantNew(t, made{most + n, 10})
		wantNew(t, made{5, most + n})
		wantNew(t, made{most + n, most + n})
	}
	rnd := rand.New(rand.NewSource(1))
	for range 20000 {
		wantNew(t, made{int64(rnd.Uint64() >> rnd.Intn(64)), int64(rnd.Uint64() >> rnd.Intn(64))})
		wantNew(t, made{-int64(rnd.Uint64() >> rnd.Intn(64)), int64(rnd.Uint64() >> rnd.Intn(64))})
	}
}

// P19.1: an error is ErrArg itself, each time, and what was made ahead of it goes on.
func TestNewThatFailsTouchesNone(t *testing.T) {
	m := newMark(t, made{5, 10})
	rows := []done{ticked(1, 0), saw(2, 20, 15), ticked(12, 25), refused(tick(11), 25), ticked(13, 26), saw(13, 9, 26)}
	for _, d := range rows {
		for _, m := range []made{{-1, 10}, {most + 1, 10}, {5, 0}, {5, -1}, {5, most + 1}} {
			wantNew(t, m)
		}
		wantDone(t, "behind New that fails", m, d)
	}
}

// P19.1, P19.2: the chapter's example.
func TestExample(t *testing.T) {
	wantRow(t, made{5, 10}, saw(0, 20, 15))
	wantRow(t, made{5, 1}, saw(most, 20, 15))
}

// P19.1, P19.2: as long as it saw nothing, it stands at 0, behind ticks of any height, and however far apart.
func TestSawNothing(t *testing.T) {
	for _, lateness := range []int64{0, 1, 5, most} {
		for _, idle := range []int64{1, 2, 10, most} {
			m := made{lateness, idle}
			wantRow(t, m)
			wantRow(t, m, ticked(0, 0), ticked(0, 0), ticked(1, 0), ticked(2, 0), ticked(11, 0), ticked(1000, 0),
				ticked(most-1, 0), ticked(most, 0), ticked(most, 0))
			wantRow(t, m, ticked(most, 0), refused(tick(0), 0), ticked(most, 0))
			wantRow(t, m, refused(see(0, -1), 0), ticked(100, 0), refused(see(100, most+1), 0), ticked(200, 0),
				refused(see(199, 50), 0), ticked(300, 0))
		}
	}
	// What ticked ahead of the first time that it saw grows nothing.
	wantRow(t, made{0, 1}, ticked(5, 0), ticked(500, 0), saw(500, 7, 7), ticked(500, 7), ticked(501, 8))
	wantRow(t, made{0, 1}, ticked(500, 0), saw(700, 7, 7), ticked(700, 7), ticked(701, 8))
}

// P19.1: the greatest time less the lateness, at least 0: less than it, the same, one above it, far above it.
func TestLateness(t *testing.T) {
	wantRow(t, made{5, 10}, saw(0, 0, 0), saw(0, 1, 0), saw(0, 4, 0), saw(0, 5, 0), saw(0, 6, 1), saw(0, 7, 2),
		saw(0, 1000, 995), saw(0, most, most-5))
	wantRow(t, made{0, 10}, saw(0, 0, 0), saw(0, 1, 1), saw(0, 2, 2), saw(0, most-1, most-1), saw(0, most, most))
	wantRow(t, made{1, 10}, saw(0, 0, 0), saw(0, 1, 0), saw(0, 2, 1), saw(0, most, most-1))
	wantRow(t, made{most, 10}, saw(0, 0, 0), saw(0, 5, 0), saw(0, most-1, 0), saw(0, most, 0))
	wantRow(t, made{most - 1, 10}, saw(0, 0, 0), saw(0, most-2, 0), saw(0, most-1, 0), saw(0, most, 1))
	for lateness := range int64(60) {
		for time := range int64(120) {
			wantRow(t, made{lateness, 10}, saw(3, time, max(time-lateness, 0)))
			wantRow(t, made{lateness, 10}, saw(3, most-time, most-time-lateness))
			wantRow(t, made{most - lateness, 10}, saw(3, most-time, max(lateness-time, 0)))
		}
	}
}

// P19.2: the greatest time is the greater one of both: a time below it leaves it, one above it is it.
func TestGreatest(t *testing.T) {
	wantRow(t, made{5, 10}, saw(1, 20, 15), saw(1, 10, 15), saw(2, 19, 15), saw(3, 20, 15), saw(4, 21, 16),
		saw(5, 0, 16), saw(6, 20, 16), saw(7, 40, 35), saw(7, 39, 35), saw(7, 41, 36))
	wantRow(t, made{5, 10}, saw(1, most, most-5), saw(1, most-1, most-5), saw(2, 0, most-5), saw(3, most, most-5))
}

// P19.2, P1: a tick or a time that there isn't: false, and nothing else.
func TestWrongNumbers(t *testing.T) {
	wrong := []int64{-1, -2, math.MinInt32, -most, math.MinInt64, math.MinInt64 + 1, most + 1, most + 2, 2 * most,
		math.MaxInt64 - most, math.MaxInt64 - 1, math.MaxInt64}
	right := []int64{0, 1, 50, most - 1, most}
	for _, n := range wrong {
		l := []deed{tick(n)}
		for _, other := range slices.Concat(right, wrong) {
			l = append(l, see(n, other), see(other, n))
		}
		for _, d := range l {
			m := made{0, 10}
			wantRow(t, m, refused(d, 0), ticked(0, 0), saw(0, 0, 0))
			wantRow(t, m, saw(1, 40, 40), refused(d, 40), ticked(1, 40), ticked(10, 40), refused(d, 40),
				ticked(11, 41), refused(d, 41), ticked(13, 43), refused(d, 43), saw(13, 44, 44), refused(d, 44))
			wantRow(t, m, saw(1, 40, 40), refused(d, 40), ticked(11, 50))
			wantRow(t, m, ticked(1, 0), refused(d, 0), ticked(1, 0), ticked(20, 0), refused(d, 0), saw(20, 7, 7))
		}
	}
}

// P19.2: 0 and MaxTime are fine for both.
func TestEndsOfBoth(t *testing.T) {
	for _, idle := range []int64{1, 10, most} {
		m := made{0, idle}
		wantRow(t, m, saw(0, 0, 0), saw(0, most, most), saw(most, 0, most), saw(most, most, most), ticked(most, most))
		wantRow(t, m, saw(0, 0, 0), ticked(most, most), saw(most, 0, most))
		wantRow(t, m, saw(most, 0, 0), ticked(most, 0), saw(most, most, most))
		wantRow(t, m, saw(most, most, most), ticked(most, most))
		wantRow(t, m, saw(0, most, most), ticked(most, most))
		wantRow(t, m, ticked(0, 0), ticked(most, 0), saw(most, 3, 3), ticked(most, 3))
	}
}

// P19.2: a tick below one that it was told, by See or by Tick, idle or not: false, and nothing else; one as great as
// the last one is fine.
func TestTickThatFalls(t *testing.T) {
	m := made{5, 10}
	wantRow(t, m, saw(7, 20, 15), refused(see(6, 90), 15), refused(tick(6), 15), refused(see(0, 90), 15),
		refused(tick(0), 15), saw(7, 21, 16), ticked(7, 16))
	wantRow(t, m, ticked(7, 0), refused(see(6, 90), 0), refused(tick(6), 0), refused(tick(0), 0), ticked(7, 0),
		saw(7, 21, 16))
	wantRow(t, m, saw(7, 20, 15), ticked(12, 15), refused(see(11, 90), 15), refused(tick(11), 15),
		refused(see(7, 90), 15), refused(tick(7), 15), ticked(12, 15), saw(12, 22, 17))
	wantRow(t, m, saw(7, 20, 15), ticked(17, 25), refused(see(16, 90), 25), refused(tick(16), 25), ticked(17, 25),
		saw(17, 31, 26), refused(see(16, 90), 26))
	wantRow(t, m, saw(most, 20, 15), refused(see(most-1, 90), 15), refused(tick(most-1), 15), saw(most, 21, 16))
	// The greatest one of all it was told is the bound, not the one that was refused last.
	wantRow(t, m, saw(100, 20, 15), refused(tick(50), 15), refused(tick(60), 15), refused(see(99, 99), 15),
		ticked(100, 15), ticked(101, 15))
	for low := range int64(30) {
		for high := range int64(30) {
			l := []done{saw(high, 20, 15)}
			switch {
			case low < high:
				l = append(l, refused(tick(low), 15), refused(see(low, 90), 15), saw(high, 30, 25))
			case low < high+10:
				l = append(l, ticked(low, 15), refused(tick(low-1), 15), refused(see(low-1, 90), 15), saw(low, 30, 25))
			default:
				l = append(l, ticked(low, 15+low-high), refused(tick(low-1), 15+low-high), ticked(low+1, 16+low-high))
			}
			wantRow(t, m, l...)
		}
	}
}

// P19.2: a tick that was refused doesn't count as told: what is below it may be told behind it.
func TestRefusedIsNotTold(t *testing.T) {
	m := made{5, 10}
	wantRow(t, m, saw(3, 20, 15), refused(see(100, -1), 15), saw(4, 21, 16), refused(see(100, most+1), 16), ticked(5, 16),
		refused(see(most, -1), 16), ticked(6, 16), refused(tick(most+1), 16), ticked(7, 16), saw(7, 22, 17))
	wantRow(t, m, refused(see(100, -1), 0), ticked(0, 0), refused(see(100, most+1), 0), saw(0, 6, 1))
	// Nor as one at which it ticked: what it grows by goes from the one ahead of it.
	wantRow(t, m, saw(3, 20, 15), ticked(5, 15), refused(see(9, -1), 15), ticked(13, 23))
	wantRow(t, m, saw(3, 20, 15), ticked(13, 25), refused(see(17, most+1), 25), ticked(20, 32),
		refused(tick(12), 32), ticked(21, 33), refused(tick(most+1), 33), ticked(22, 34))
}

// P19.2: nor as one at which it saw something: it is idle behind it as if it had never been.
func TestRefusedIsNotSeen(t *testing.T) {
	m := made{5, 10}
	wantRow(t, m, saw(3, 20, 15), refused(see(12, -1), 15), ticked(12, 15), ticked(13, 16))
	wantRow(t, m, saw(3, 20, 15), refused(see(12, most+1), 15), ticked(13, 25))
	wantRow(t, m, saw(3, 20, 15), ticked(12, 15), refused(see(11, 90), 15), refused(see(12, -1), 15), ticked(13, 16))
	wantRow(t, m, saw(3, 20, 15), ticked(13, 25), refused(see(13, -1), 25), ticked(14, 26), refused(see(13, 90), 26),
		ticked(15, 27), refused(see(2, 90), 27), ticked(16, 28))
	// It saw nothing, if all was refused.
	wantRow(t, m, refused(see(3, -1), 0), refused(see(3, most+1), 0), refused(see(-1, 20), 0), refused(see(most+1, 20), 0),
		ticked(3, 0), ticked(13, 0), ticked(100, 0), refused(see(99, 20), 0), ticked(200, 0), saw(200, 20, 15))
}

// P19.2: a time below the greatest one leaves that, but it was seen: the idle time goes from there on.
func TestLowTimeIsSeen(t *testing.T) {
	m := made{5, 10}
	wantRow(t, m, saw(3, 20, 15), saw(9, 4, 15), ticked(13, 15), ticked(18, 15), ticked(19, 16), ticked(21, 18))
	wantRow(t, m, saw(3, 20, 15), saw(12, 0, 15), ticked(13, 15), ticked(21, 15), ticked(22, 16))
	wantRow(t, m, saw(3, 20, 15), saw(9, 20, 15), ticked(18, 15), ticked(19, 16))
	// A time of 0 is seen too, by one that saw nothing ahead of it.
	wantRow(t, made{0, 10}, saw(3, 0, 0), ticked(12, 0), ticked(13, 1), ticked(23, 11))
}

// P19.2: one below the idle time above the tick at which it saw something last, just at it, one above it.
func TestIdleTime(t *testing.T) {
	wantRow(t, made{5, 10}, saw(3, 20, 15), ticked(12, 15))
	wantRow(t, made{5, 10}, saw(3, 20, 15), ticked(13, 25))
	wantRow(t, made{5, 10}, saw(3, 20, 15), ticked(14, 26))
	wantRow(t, made{5, 10}, saw(3, 20, 15), ticked(12, 15), ticked(13, 16))
	wantRow(t, made{5, 10}, saw(3, 20, 15), ticked(3, 15), ticked(4, 15), ticked(12, 15), ticked(12, 15), ticked(14, 17))
	wantRow(t, made{5, 1}, saw(3, 20, 15), ticked(3, 15), ticked(4, 16), ticked(5, 17))
	wantRow(t, made{5, most}, saw(0, 20, 15), ticked(most-1, 15), ticked(most, 16))
	wantRow(t, made{5, most}, saw(0, 20, 15), ticked(most, most-5))
	wantRow(t, made{5, most}, saw(1, 20, 15), ticked(most, 15), ticked(most, 15))
	wantRow(t, made{5, most - 1}, saw(1, 20, 15), ticked(most-1, 15), ticked(most, 16))
	for idle := int64(1); idle <= 40; idle++ {
		for at := range int64(20) {
			m := made{5, idle}
			wantRow(t, m, saw(at, 20, 15), ticked(at+idle-1, 15), ticked(at+idle, 16))
			wantRow(t, m, saw(at, 20, 15), ticked(at+idle, 15+idle), ticked(at+idle+1, 16+idle))
			wantRow(t, m, saw(at, 20, 15), ticked(at+idle+7, 22+idle), ticked(at+idle+9, 24+idle))
			wantRow(t, m, saw(at, 20, 15), ticked(at, 15), ticked(at+idle-1, 15), ticked(at+idle+5, 21))
			wantRow(t, m, ticked(at, 0), saw(at+3, 20, 15), ticked(at+2+idle, 15), ticked(at+3+idle, 16))
		}
	}
}

// P19.2: it grows by how much the tick is above the last one at which it ticked, or saw something.
func TestGrowth(t *testing.T) {
	m := made{5, 10}
	// A first idle tick with no tick ahead of it.
	wantRow(t, m, saw(3, 20, 15), ticked(30, 42))
	// With ticks ahead of it that weren't idle.
	wantRow(t, m, saw(3, 20, 15), ticked(4, 15), ticked(9, 15), ticked(30, 36))
	wantRow(t, m, saw(3, 20, 15), ticked(12, 15), ticked(30, 33))
	// A second and a third one behind it, and one at the same tick again.
	wantRow(t, m, saw(3, 20, 15), ticked(30, 42), ticked(31, 43), ticked(40, 52), ticked(40, 52), ticked(40, 52),
		ticked(41, 53), ticked(1041, 1053))
	// One at the tick at which it saw something isn't idle, nor does it grow by ticks ahead of that.
	wantRow(t, m, ticked(1, 0), saw(100, 20, 15), ticked(100, 15), ticked(110, 25))
	// Of many that it saw, the last one.
	wantRow(t, m, saw(3, 20, 15), saw(4, 19, 15), saw(8, 18, 15), ticked(17, 15), ticked(18, 16))
	wantRow(t, m, saw(3, 20, 15), saw(4, 19, 15), saw(8, 18, 15), ticked(18, 25))
}

// P19.2: seeing something ends it being idle; a time less than what the greatest time grew to doesn't set that back.
func TestSeenBehindIdle(t *testing.T) {
	m := made{5, 10}
	wantRow(t, m, saw(3, 20, 15), ticked(30, 42), saw(30, 22, 42), ticked(31, 42), ticked(39, 42), ticked(40, 43),
		ticked(41, 44))
	wantRow(t, m, saw(3, 20, 15), ticked(30, 42), saw(33, 46, 42), saw(33, 47, 42), saw(33, 48, 43), ticked(42, 43),
		ticked(43, 44))
	wantRow(t, m, saw(3, 20, 15), ticked(13, 25), saw(13, 0, 25), ticked(22, 25), saw(22, 1, 25), ticked(31, 25),
		ticked(32, 26), saw(40, 100, 95), ticked(49, 95), ticked(50, 96), saw(51, 30, 96), ticked(60, 96), ticked(61, 97))
	// Seeing something at a tick at which it would be idle grows nothing: it is told by See, and just that is seen.
	wantRow(t, m, saw(3, 20, 15), saw(100, 4, 15), ticked(100, 15), ticked(109, 15), ticked(110, 16))
	wantRow(t, m, saw(3, 20, 15), saw(100, 21, 16), ticked(110, 26))
	wantRow(t, m, saw(3, 20, 15), ticked(13, 25), saw(50, 4, 25), ticked(51, 25), ticked(60, 34))
}

// P19.2: it grows to MaxTime at most.
func TestGrowsToMaxTime(t *testing.T) {
	wantRow(t, made{0, 10}, saw(0, most-15, most-15), ticked(10, most-5), ticked(14, most-1), ticked(15, most),
		ticked(16, most), ticked(most, most), ticked(most, most), saw(most, 4, most))
	wantRow(t, made{0, 10}, saw(0, most-10, most-10), ticked(10, most), ticked(11, most))
	wantRow(t, made{0, 10}, saw(0, most-10, most-10), ticked(11, most))
	wantRow(t, made{0, 10}, saw(0, most-9, most-9), ticked(10, most), ticked(20, most))
	wantRow(t, made{0, 10}, saw(0, most, most), ticked(10, most), ticked(most, most))
	wantRow(t, made{0, 1}, saw(0, most-1, most-1), ticked(most, most), ticked(most, most))
	wantRow(t, made{0, 1}, saw(0, 1, 1), ticked(most, most))
	wantRow(t, made{0, 1}, saw(0, 0, 0), ticked(most-1, most-1), ticked(most, most))
	wantRow(t, made{0, 1}, saw(1, 0, 0), ticked(most, most-1), ticked(most, most-1), saw(most, most, most))
	wantRow(t, made{5, 10}, saw(0, most-10, most-15), ticked(10, most-5), ticked(20, most-5))
	// Where it stands is less by the lateness, not what it grows to.
	wantRow(t, made{most, 10}, saw(0, most-10, 0), ticked(10, 0), ticked(20, 0), ticked(most, 0))
	wantRow(t, made{most - 3, 10}, saw(0, most-12, 0), ticked(10, 1), ticked(11, 2), ticked(12, 3), ticked(13, 3))
}

// P19.1, P19.2: where the greatest time is below the lateness it grows all the same, and stands at 0 till it is above.
func TestGrowsBelowLateness(t *testing.T) {
	wantRow(t, made{50, 10}, saw(0, 20, 0), ticked(10, 0), ticked(29, 0), ticked(30, 0), ticked(31, 1), ticked(40, 10),
		saw(40, 55, 10), saw(40, 60, 10), saw(40, 61, 11))
	wantRow(t, made{50, 10}, saw(0, 0, 0), ticked(10, 0), ticked(50, 0), ticked(51, 1))
	wantRow(t, made{50, 10}, saw(0, 0, 0), ticked(9, 0), ticked(59, 0), ticked(60, 1))
}

// P19.1: At, asked any number of times at any place, turns nothing.
func TestAskingTurnsNothing(t *testing.T) {
	rnd := rand.New(rand.NewSource(2))
	for range 500 {
		m := anyMade(rnd)
		asked, told := newMark(t, m), newMark(t, m)
		for _, d := range anyDeeds(rnd, m, 60) {
			is, want := do(asked, d), do(told, d)
			if is != want {
				t.Fatalf("%s: %s = %v, of one that isn't asked %v", m.text(), d.text(), is, want)
			}
			at := asked.At()
			for range rnd.Intn(20) {
				if asked.At() != at {
					t.Fatalf("%s: At() = %d, then %d", m.text(), at, asked.At())
				}
			}
		}
		if asked.At() != told.At() {
			t.Fatalf("%s: At() = %d, of one that isn't asked %d", m.text(), asked.At(), told.At())
		}
	}
}

// anyMade is one of small numbers mostly, so that it is idle often.
func anyMade(rnd *rand.Rand) made {
	m := made{int64(rnd.Intn(20)), 1 + int64(rnd.Intn(12))}
	switch rnd.Intn(8) {
	case 0:
		m.lateness = most - int64(rnd.Intn(20))
	case 1:
		m.idle = most - int64(rnd.Intn(20))
	case 2:
		m = made{rnd.Int63n(most + 1), 1 + rnd.Int63n(most)}
	}
	return m
}

// anyDeeds are deeds whose ticks rise mostly, stay, or fall; some are such as there aren't.
func anyDeeds(rnd *rand.Rand, m made, many int) []deed {
	l := []deed{}
	base := []int64{0, 0, 0, 100, most - 300, rnd.Int63n(most)}[rnd.Intn(6)]
	now, time := base, base
	for range many {
		d := deed{tick: rnd.Intn(3) > 0, now: nextTick(rnd, m, now)}
		if d.now >= 0 && d.now <= most {
			now = d.now
		}
		if !d.tick {
			time, d.time = nextTime(rnd, time)
		}
		l = append(l, d)
	}
	return l
}

// nextTick is one near to the last one, or to the idle time above it, or such as there isn't.
func nextTick(rnd *rand.Rand, m made, now int64) int64 {
	switch rnd.Intn(40) {
	case 0:
		return edges()[rnd.Intn(len(edges()))]
	case 1:
		return now - 1 - int64(rnd.Intn(20))
	case 2:
		return rnd.Int63() >> rnd.Intn(63)
	case 3:
		return -rnd.Int63() >> rnd.Intn(63)
	case 4, 5, 6, 7, 8:
		return now
	case 9, 10, 11:
		return now - 1
	case 12, 13, 14, 15:
		return now + m.idle + int64(rnd.Intn(3)) - 1
	}
	return now + int64(rnd.Intn(5))
}

// nextTime is one near to where times are, and where they are then.
func nextTime(rnd *rand.Rand, time int64) (int64, int64) {
	switch rnd.Intn(20) {
	case 0:
		return time, edges()[rnd.Intn(len(edges()))]
	case 1:
		return time, rnd.Int63() >> rnd.Intn(63)
	case 2:
		return time, -rnd.Int63() >> rnd.Intn(63)
	case 3:
		return time, most - int64(rnd.Intn(50))
	}
	time = min(time+int64(rnd.Intn(12)), most)
	return time, time - int64(rnd.Intn(15))
}

// wantAlike does a list of deeds, and holds it against both ways to work the words out.
func wantAlike(t *testing.T, m made, l []deed) {
	t.Helper()
	mark, steps, words := newMark(t, m), &bySteps{made: m}, &byWords{made: m}
	was := int64(0)
	for i, d := range l {
		is, want, also := do(mark, d), steps.tell(d), words.tell(d)
		if is != want || is != also {
			t.Fatalf("%s,%s: it is %v, want %v, %v", m.text(), texts(l[:i+1]), is, want, also)
		}
		at := mark.At()
		if at != steps.at() {
			t.Fatalf("%s,%s: At() = %d, want %d", m.text(), texts(l[:i+1]), at, steps.at())
		}
		if at < was {
			t.Fatalf("%s,%s: At() = %d, behind %d", m.text(), texts(l[:i+1]), at, was)
		}
		was = at
	}
	if mark.At() != words.at() {
		t.Fatalf("%s,%s: At() = %d, want %d", m.text(), texts(l), mark.At(), words.at())
	}
}

// P19.2, P19.3: all lists of four of a few deeds, of marks of small numbers.
func TestAllShortLists(t *testing.T) {
	each := []deed{see(2, -1), tick(-1), see(1, most+1)}
	for now := range int64(4) {
		each = append(each, tick(now), see(now, 0), see(now, 2), see(now, 4))
	}
	l := make([]deed, 4)
	for _, m := range []made{{0, 1}, {0, 2}, {0, 3}, {1, 1}, {2, 2}, {3, 1}} {
		for n := range len(each) * len(each) * len(each) * len(each) {
			for i := range l {
				l[i] = each[n%len(each)]
				n /= len(each)
			}
			wantAlike(t, m, l)
		}
	}
}

// P19.2, P19.3: all lists of six of fewer deeds, so that many are idle behind each other.
func TestAllLongerLists(t *testing.T) {
	each := []deed{see(0, 1), see(2, 3), see(3, 0), tick(0), tick(1), tick(2), tick(3), tick(5)}
	l := make([]deed, 6)
	for _, m := range []made{{0, 1}, {2, 2}} {
		for n := range 1 << 18 {
			for i := range l {
				l[i] = each[n&7]
				n >>= 3
			}
			wantAlike(t, m, l)
		}
	}
}

// P19.2, P19.3, P1: marks and deeds at random, each told against the chapter's words worked out apart; it never goes
// back.
func TestAtRandom(t *testing.T) {
	rnd := rand.New(rand.NewSource(3))
	for range 6000 {
		m := anyMade(rnd)
		wantAlike(t, m, anyDeeds(rnd, m, rnd.Intn(80)))
	}
	for range 20 {
		m := anyMade(rnd)
		wantAlike(t, m, anyDeeds(rnd, m, 1000))
	}
}

// P19.2: what is refused leaves no trace, wherever it comes: a mark that isn't told it answers alike.
func TestRefusedLeavesNoTrace(t *testing.T) {
	rnd := rand.New(rand.NewSource(4))
	refusals := 0
	for range 3000 {
		m := anyMade(rnd)
		all, words, spared := newMark(t, m), &byWords{made: m}, newMark(t, m)
		for _, d := range anyDeeds(rnd, m, 50) {
			may, at := words.tell(d), all.At()
			if do(all, d) != may {
				t.Fatalf("%s,%s: %s isn't %v", m.text(), texts(words.told), d.text(), may)
			}
			if !may {
				refusals++
				if all.At() != at || *all != *spared {
					t.Fatalf("%s,%s: turned by %s, which is refused", m.text(), texts(words.told), d.text())
				}
			} else if !do(spared, d) || spared.At() != all.At() {
				t.Fatalf("%s,%s: At() = %d, without what is refused %d", m.text(), texts(words.told), all.At(), spared.At())
			}
		}
	}
	if refusals < 10000 {
		t.Errorf("%d refusals", refusals)
	}
}

// P19.3: where it only sees, it stands at the greatest time less the lateness, whatever the ticks are.
func TestOnlySees(t *testing.T) {
	rnd := rand.New(rand.NewSource(5))
	for range 3000 {
		m := anyMade(rnd)
		mark, seen := newMark(t, m), []int64{0}
		for _, d := range anyDeeds(rnd, m, 50) {
			if mark.See(d.now, d.time) {
				seen = append(seen, d.time)
			}
			if is, want := mark.At(), max(slices.Max(seen)-m.lateness, 0); is != want {
				t.Fatalf("%s: At() = %d behind %v, want %d", m.text(), is, seen, want)
			}
		}
	}
}

// P19.3: it never stands above the greatest time that it saw less the lateness, unless it was idle: till its first tick
// that is the idle time above the last one at which it saw something, it stands just there, however it ticks.
func TestNotIdleYet(t *testing.T) {
	rnd := rand.New(rand.NewSource(6))
	idles := 0
	for range 3000 {
		m := anyMade(rnd)
		mark, words := newMark(t, m), &byWords{made: m}
		great, idle := int64(0), false
		for _, d := range anyDeeds(rnd, m, 50) {
			do(mark, d)
			if !words.tell(d) {
				continue
			}
			if !d.tick {
				great = max(great, d.time)
			}
			if idle = idle || words.idleAt(len(words.told)-1); idle {
				idles++
				break
			}
			if is, want := mark.At(), max(great-m.lateness, 0); is != want {
				t.Fatalf("%s,%s: At() = %d, want %d", m.text(), texts(words.told), is, want)
			}
		}
	}
	if idles < 1000 {
		t.Errorf("%d were idle", idles)
	}
}

// P19.3, P1: numbers of any height, each call ends, none panics, and it never goes back nor beyond MaxTime.
func TestAnyNumbers(t *testing.T) {
	rnd := rand.New(rand.NewSource(7))
	for range 3000 {
		m := anyMade(rnd)
		l := []deed{}
		for range 20 {
			d := deed{rnd.Intn(2) == 0, int64(rnd.Uint64()) >> rnd.Intn(64), int64(rnd.Uint64()) >> rnd.Intn(64)}
			if rnd.Intn(3) == 0 {
				d.now, d.time = edges()[rnd.Intn(len(edges()))], edges()[rnd.Intn(len(edges()))]
			}
			l = append(l, d)
		}
		wantAlike(t, m, l)
		mark := newMark(t, m)
		for _, d := range l {
			do(mark, d)
			if at := mark.At(); at < 0 || at > most-m.lateness {
				t.Fatalf("%s,%s: At() = %d", m.text(), texts(l), at)
			}
		}
	}
	for _, a := range edges() {
		for _, b := range edges() {
			for _, c := range edges() {
				wantAlike(t, made{0, 1}, []deed{see(a, b), tick(c), see(c, a), tick(b)})
			}
		}
	}
}

// P19.1, P19.2: marks told apart, deed by deed of each in turn, don't touch each other: each is as if it were alone.
// Some are made of the same numbers, and some are made while the others are under way.
func TestApart(t *testing.T) {
	rnd := rand.New(rand.NewSource(8))
	for range 60 {
		marks, steps, lists := []*Mark{}, []*bySteps{}, [][]deed{}
		m := anyMade(rnd)
		for n := range 400 {
			if n%80 == 0 {
				marks, steps = append(marks, newMark(t, m)), append(steps, &bySteps{made: m})
				lists = append(lists, anyDeeds(rnd, m, 400))
				if n%160 == 0 {
					m = anyMade(rnd)
				}
			}
			at := rnd.Intn(len(marks))
			d := lists[at][n]
			if is, want := do(marks[at], d), steps[at].tell(d); is != want {
				t.Fatalf("mark %d, %s: %s = %v, want %v", at, steps[at].text(), d.text(), is, want)
			}
			for i, m := range marks {
				if is := m.At(); is != steps[i].at() {
					t.Fatalf("mark %d, behind a deed of mark %d: At() = %d, want %d", i, at, is, steps[i].at())
				}
			}
		}
	}
}

// P19.1, P19.2: two of the same numbers, by hand.
func TestTwoByHand(t *testing.T) {
	m := made{5, 10}
	a, b := newMark(t, m), newMark(t, m)
	wantDone(t, "a", a, saw(3, 20, 15), ticked(9, 15))
	wantAt(t, "b, told nothing", b, 0)
	wantDone(t, "b", b, ticked(0, 0), saw(1, 8, 3))
	wantDone(t, "a", a, refused(tick(8), 15), ticked(13, 19))
	wantDone(t, "b", b, ticked(10, 3), ticked(11, 4))
	wantDone(t, "a", a, ticked(14, 20))
	wantAt(t, "b", b, 4)
}
