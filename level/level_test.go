package level

import (
	"math"
	"math/rand"
	"slices"
	"strconv"
	"testing"

	"noggin/api"
)

// most is the chapter's greatest number of levels, greatest its greatest mark, held its greatest hold.
const (
	most     = 8
	greatest = 1000
	held     = 1000
)

// made is what a gauge is made of.
type made struct{ levels, low, high, hold int }

func (m made) text() string {
	return strconv.Itoa(m.levels) + " levels, marks " + strconv.Itoa(m.low) + ", " + strconv.Itoa(m.high) +
		", hold " + strconv.Itoa(m.hold)
}

// may tells whether a gauge may be made of that, by the chapter's words.
func (m made) may() bool {
	wrong := m.levels < 1 || m.levels > most
	wrong = wrong || m.low < 0 || m.low > m.high
	wrong = wrong || m.high > greatest
	wrong = wrong || m.hold < 1 || m.hold > held
	return !wrong
}

// byWords is a gauge by the chapter's words: it keeps all that it was told, and works its level out from that, run by
// run of ticks below the low mark.
type byWords struct {
	made
	told []int
}

func (w *byWords) level() int {
	level := 0
	for at := 0; at < len(w.told); {
		if w.told[at] > w.high {
			if level != w.levels-1 {
				level++
			}
			at++
			continue
		}
		run := at
		for run < len(w.told) && w.told[run] < w.low {
			run++
		}
		if run == at {
			at++
			continue
		}
		// In a run it goes down as often as the hold is in it: where there is no level less, that is lost.
		for times := (run - at) / w.hold; times > 0 && level > 0; times-- {
			level--
		}
		at = run
	}
	return level
}

// byTicks is a gauge by the chapter's words, tick by tick, for rows too long to be worked out anew at each.
type byTicks struct {
	made
	is int
	// below are the ticks that it has held for.
	below []int
}

func (w *byTicks) tell(depth int) int {
	if depth > w.high {
		w.below = nil
		if w.is+1 < w.levels {
			w.is = w.is + 1
		}
		return w.is
	}
	if depth >= w.low {
		w.below = nil
		return w.is
	}
	w.below = append(w.below, depth)
	if len(w.below) == w.hold {
		w.below = nil
		if w.is != 0 {
			w.is = w.is - 1
		}
	}
	return w.is
}

func newGauge(t *testing.T, m made) *Gauge {
	t.Helper()
	g, err := New(m.levels, m.low, m.high, m.hold)
	if err != nil || g == nil {
		t.Fatalf("%s: New = %v, %v", m.text(), g, err)
	}
	return g
}

// wantLevel asks twice: asking turns nothing.
func wantLevel(t *testing.T, name string, g *Gauge, level int) {
	t.Helper()
	for range 2 {
		if is := g.Level(); is != level {
			t.Errorf("%s: Level() = %d, want %d", name, is, level)
		}
	}
}

// tick is one Tell, and the level then.
type tick struct{ depth, level int }

func wantTold(t *testing.T, name string, g *Gauge, l ...tick) {
	t.Helper()
	for i, x := range l {
		if is := g.Tell(x.depth); is != x.level {
			t.Errorf("%s: row %d: Tell(%d) = %d, want %d", name, i, x.depth, is, x.level)
		}
		wantLevel(t, name+": behind row "+strconv.Itoa(i), g, x.level)
	}
}

// wantRow is that of a gauge of its own, asked ahead of the first one too, and again of one that is asked nothing but
// behind the last.
func wantRow(t *testing.T, m made, l ...tick) {
	t.Helper()
	g := newGauge(t, m)
	wantLevel(t, m.text()+": at its beginning", g, 0)
	wantTold(t, m.text(), g, l...)
	g = newGauge(t, m)
	level := 0
	for i, x := range l {
		level = g.Tell(x.depth)
		if level != x.level {
			t.Errorf("%s, not asked: row %d: Tell(%d) = %d, want %d", m.text(), i, x.depth, level, x.level)
		}
	}
	wantLevel(t, m.text()+", not asked till now", g, level)
}

// alike is one tick, so often.
func alike(many, depth, level int) []tick { return slices.Repeat([]tick{{depth, level}}, many) }

// row is lists of ticks behind each other.
func row(l ...[]tick) []tick { return slices.Concat(l...) }

// up is the way to a level, from 0 on, of a gauge whose high mark is below that depth.
func up(depth, level int) []tick {
	l := []tick{}
	for is := 1; is <= level; is++ {
		l = append(l, tick{depth, is})
	}
	return l
}

// edges are numbers at the ends of what New's may be, and far from them.
func edges() []int {
	return []int{math.MinInt, math.MinInt + 1, math.MinInt32, -1000, -1, 0, 1, 2, 7, 8, 9, 500, 999, 1000, 1001, 1002,
		65536, math.MaxInt32, math.MaxInt - 1, math.MaxInt}
}

// wantNew holds what New answers against the chapter's words.
func wantNew(t *testing.T, m made) {
	t.Helper()
	g, err := New(m.levels, m.low, m.high, m.hold)
	if !m.may() {
		if g != nil || err != api.ErrArg {
			t.Errorf("%s: New = %v, %v, want nil, %v", m.text(), g, err, api.ErrArg)
		}
		return
	}
	if g == nil || err != nil {
		t.Errorf("%s: New = %v, %v", m.text(), g, err)
		return
	}
	if is := g.Level(); is != 0 {
		t.Errorf("%s: Level() = %d at its beginning", m.text(), is)
	}
}

// P16.1, P1: each of New's numbers at the edges, beside others that may be: what is amiss, and what isn't, by hand.
func TestNewByHand(t *testing.T) {
	rows := []struct {
		made
		may bool
	}{
		{made{1, 2, 5, 2}, true}, {made{2, 2, 5, 2}, true}, {made{7, 2, 5, 2}, true}, {made{8, 2, 5, 2}, true},
		{made{0, 2, 5, 2}, false}, {made{9, 2, 5, 2}, false}, {made{-1, 2, 5, 2}, false},
		{made{math.MinInt, 2, 5, 2}, false}, {made{math.MaxInt, 2, 5, 2}, false},

		{made{3, 0, 5, 2}, true}, {made{3, 1, 5, 2}, true}, {made{3, 4, 5, 2}, true}, {made{3, 5, 5, 2}, true},
		{made{3, -1, 5, 2}, false}, {made{3, 6, 5, 2}, false}, {made{3, 7, 5, 2}, false},
		{made{3, 1000, 5, 2}, false}, {made{3, math.MinInt, 5, 2}, false}, {made{3, math.MaxInt, 5, 2}, false},

		{made{3, 0, 0, 2}, true}, {made{3, 0, 1, 2}, true}, {made{3, 0, 999, 2}, true}, {made{3, 0, 1000, 2}, true},
		{made{3, 999, 1000, 2}, true}, {made{3, 1000, 1000, 2}, true}, {made{3, 999, 999, 2}, true},
		{made{3, 1, 0, 2}, false}, {made{3, 0, -1, 2}, false}, {made{3, -1, -1, 2}, false},
		{made{3, -2, -1, 2}, false}, {made{3, 0, 1001, 2}, false}, {made{3, 1000, 1001, 2}, false},
		{made{3, 1001, 1001, 2}, false}, {made{3, 1001, 1000, 2}, false}, {made{3, 1002, 1001, 2}, false},
		{made{3, 0, math.MinInt, 2}, false}, {made{3, math.MinInt, math.MinInt, 2}, false},
		{made{3, 0, math.MaxInt, 2}, false}, {made{3, math.MaxInt, math.MaxInt, 2}, false},
		{made{3, math.MinInt, math.MaxInt, 2}, false}, {made{3, math.MaxInt, math.MinInt, 2}, false},

		{made{3, 2, 5, 1}, true}, {made{3, 2, 5, 999}, true}, {made{3, 2, 5, 1000}, true},
		{made{3, 2, 5, 0}, false}, {made{3, 2, 5, -1}, false}, {made{3, 2, 5, 1001}, false},
		{made{3, 2, 5, math.MinInt}, false}, {made{3, 2, 5, math.MaxInt}, false},

		{made{1, 0, 0, 1}, true}, {made{8, 1000, 1000, 1000}, true}, {made{0, 0, 0, 0}, false},
		{made{0, 2, 5, 0}, false}, {made{9, 2, 5, 1001}, false}, {made{9, 6, 5, 2}, false}, {made{0, -1, 5, 2}, false},
		{made{3, -1, 1001, 2}, false}, {made{3, 6, 5, 0}, false}, {made{3, 2, 1001, 0}, false},
		{made{0, -1, -2, 0}, false}, {made{9, 1001, 1001, 1001}, false},
	}
	for _, r := range rows {
		if r.made.may() != r.may {
			t.Errorf("%s: by the words it may be: %v", r.text(), !r.may)
		}
		wantNew(t, r.made)
	}
}

// P16.1, P1: all of New's numbers at the edges at once.
func TestNewOfEdges(t *testing.T) {
	for _, levels := range edges() {
		for _, low := range edges() {
			for _, high := range edges() {
				for _, hold := range edges() {
					wantNew(t, made{levels, low, high, hold})
				}
			}
		}
	}
}

// P16.1: each number of levels, each mark, and each hold, that may be or is near to what may be.
func TestNewOfEach(t *testing.T) {
	for n := -70; n <= 1070; n++ {
		wantNew(t, made{n, 2, 5, 2})
		wantNew(t, made{3, n, 1000, 2})
		wantNew(t, made{3, n, 500, 2})
		wantNew(t, made{3, n, n, 2})
		wantNew(t, made{3, n, n - 1, 2})
		wantNew(t, made{3, 0, n, 2})
		wantNew(t, made{3, 500, n, 2})
		wantNew(t, made{3, 2, 5, n})
	}
}

// P16.1: an error is ErrArg itself, each time, and what was made ahead of it goes on.
func TestNewThatFailsTouchesNone(t *testing.T) {
	g := newGauge(t, made{3, 2, 5, 2})
	rows := []tick{{6, 1}, {9, 2}, {1, 2}, {0, 1}, {1, 1}, {7, 2}, {0, 2}, {0, 1}, {0, 1}, {0, 0}}
	for _, x := range rows {
		for _, m := range []made{{0, 2, 5, 2}, {9, 2, 5, 2}, {3, 6, 5, 2}, {3, 2, 1001, 2}, {3, 2, 5, 0}} {
			wantNew(t, m)
		}
		wantTold(t, "behind New that fails", g, x)
	}
}

// P16.1: the chapter's example.
func TestExample(t *testing.T) {
	wantRow(t, made{2, 1, 3, 1}, tick{4, 1})
}

// P16.1: the high mark: at it, one above it, far above it.
func TestHighMark(t *testing.T) {
	m := made{8, 2, 5, 2}
	wantRow(t, m, tick{5, 0}, tick{5, 0}, tick{6, 1}, tick{5, 1}, tick{6, 2}, tick{5, 2}, tick{4, 2}, tick{7, 3})
	wantRow(t, m, tick{6, 1}, tick{7, 2}, tick{1000, 3}, tick{1001, 4}, tick{math.MaxInt, 5}, tick{math.MaxInt32, 6})
	for high := range greatest + 1 {
		m := made{3, 0, high, 2}
		wantRow(t, m, tick{high, 0}, tick{high + 1, 1}, tick{high, 1}, tick{max(high-1, 0), 1}, tick{high + 1, 2})
		wantRow(t, m, tick{math.MaxInt, 1}, tick{high, 1}, tick{high * 2, min(high, 1) + 1})
	}
}

// P16.1: the low mark: at it, one below it, far below it.
func TestLowMark(t *testing.T) {
	m := made{8, 2, 5, 1}
	wantRow(t, m, row(up(6, 7), []tick{{2, 7}, {1, 6}, {2, 6}, {1, 5}, {0, 4}, {-1, 3}, {-1000, 2}, {math.MinInt32, 1},
		{math.MinInt, 0}, {math.MinInt, 0}})...)
	for low := range greatest + 1 {
		m := made{4, low, greatest, 1}
		wantRow(t, m, row(up(greatest+1, 3),
			[]tick{{low, 3}, {low - 1, 2}, {low, 2}, {low + 1, 2 + low/greatest}, {low, 2 + low/greatest}})...)
		wantRow(t, m, row(up(greatest+1, 3), []tick{{math.MinInt, 2}, {low, 2}, {low - 1, 1}, {low - 1000, 0}})...)
	}
}

// P16.1: between both marks, and at them, it neither goes up nor down, however long.
func TestBetween(t *testing.T) {
	for level := range 4 {
		for depth := 20; depth <= 50; depth++ {
			wantRow(t, made{4, 20, 50, 1}, row(up(51, level), alike(10, depth, level))...)
			wantRow(t, made{4, 20, 50, 3}, row(up(51, level), alike(10, depth, level))...)
		}
		for _, depth := range []int{math.MinInt, -1, 0, 19} {
			wantRow(t, made{4, 20, 50, 1}, row(up(51, level), []tick{{depth, max(level-1, 0)}})...)
		}
		for _, depth := range []int{51, 52, 1001, math.MaxInt} {
			wantRow(t, made{4, 20, 50, 1}, row(up(51, level), []tick{{depth, min(level+1, 3)}})...)
		}
	}
}

// P16.1, P1: the least and the greatest number there are, and those near to them, told again and again.
func TestEndsOfDepth(t *testing.T) {
	for _, m := range []made{{4, 0, 0, 1}, {4, 0, 1000, 1}, {4, 1000, 1000, 1}, {4, 2, 5, 1}} {
		wantRow(t, m, tick{math.MinInt, 0}, tick{math.MaxInt, 1}, tick{math.MaxInt, 2}, tick{math.MinInt, 1},
			tick{math.MaxInt - 1, 2}, tick{math.MaxInt, 3}, tick{math.MaxInt, 3}, tick{math.MinInt + 1, 2},
			tick{math.MinInt, 1}, tick{math.MinInt, 0}, tick{math.MinInt, 0}, tick{math.MaxInt, 1})
	}
	for _, m := range []made{{4, 0, 0, 2}, {4, 0, 1000, 2}, {4, 1000, 1000, 2}, {4, 2, 5, 2}} {
		wantRow(t, m, tick{math.MaxInt, 1}, tick{math.MaxInt, 2}, tick{math.MinInt, 2}, tick{math.MinInt, 1},
			tick{math.MinInt, 1}, tick{math.MaxInt, 2}, tick{math.MinInt, 2}, tick{math.MinInt, 1})
	}
}

// P16.1, P16.2: one level up only, however much waits, up to the highest one, which is one less than the levels.
func TestUp(t *testing.T) {
	for levels := 1; levels <= most; levels++ {
		for _, depth := range []int{6, 7, 11, 100, 1000, 1001, math.MaxInt} {
			m := made{levels, 2, 5, 1}
			wantRow(t, m, row(up(depth, levels-1), alike(20, depth, levels-1))...)
		}
	}
}

// P16.1: above the high mark at the highest level there is: it stays there, and as few ticks lead down from there as
// if it had been told that once.
func TestAboveAtTheHighest(t *testing.T) {
	for levels := 1; levels <= most; levels++ {
		for many := range 30 {
			m := made{levels, 2, 5, 3}
			last := levels - 1
			wantRow(t, m, row(up(6, last), alike(many, 6, last), alike(2, 1, last), alike(3, 1, max(last-1, 0)),
				alike(3, 1, max(last-2, 0)), alike(3, 1, max(last-3, 0)))...)
		}
	}
}

// P16.1: below the low mark at level 0: it stays there, and one above the high mark leads up from there, however long
// it was there.
func TestBelowAtZero(t *testing.T) {
	for many := range 30 {
		for hold := 1; hold <= 7; hold++ {
			m := made{3, 2, 5, hold}
			// What it held for at level 0 isn't kept: all of the hold is needed behind going up.
			wantRow(t, m, row(alike(many, 1, 0), []tick{{6, 1}}, alike(hold-1, 1, 1), []tick{{1, 0}}, alike(many, 0, 0),
				up(6, 2), alike(hold-1, 1, 2), alike(hold, 1, 1), alike(many+1, 1, 0), []tick{{6, 1}, {6, 2}, {6, 2}})...)
		}
	}
}

// P16.1: as many ticks below the low mark as it holds, one fewer, one more, twice as many, and one fewer than that.
func TestHold(t *testing.T) {
	holds := []int{1, 2, 3, 4, 5, 10, 99, 500, 999, 1000}
	for _, hold := range holds {
		m := made{4, 2, 5, hold}
		wantRow(t, m, row(up(6, 3), alike(hold-1, 1, 3), []tick{{2, 3}})...)
		wantRow(t, m, row(up(6, 3), alike(hold-1, 1, 3), []tick{{1, 2}})...)
		wantRow(t, m, row(up(6, 3), alike(hold-1, 1, 3), alike(hold, 1, 2), []tick{{1, 1}})...)
		wantRow(t, m, row(up(6, 3), alike(hold-1, 1, 3), alike(hold, 1, 2), alike(hold, 1, 1), alike(hold+1, 1, 0))...)
	}
	for hold := 1; hold <= held; hold++ {
		g := newGauge(t, made{3, 2, 5, hold})
		g.Tell(6)
		g.Tell(6)
		for n := 1; n <= 2*hold+1; n++ {
			if is, want := g.Tell(1), max(2-n/hold, 0); is != want {
				t.Fatalf("hold %d: level %d behind %d ticks below the low mark, want %d", hold, is, n, want)
			}
		}
	}
}

// P16.1: it has held for nothing behind one tick between both, or above the high mark, wherever it is in the midst
// of those below.
func TestHeldForNothing(t *testing.T) {
	for hold := 1; hold <= 12; hold++ {
		for many := range hold {
			m := made{4, 20, 50, hold}
			for _, depth := range []int{20, 21, 35, 49, 50} {
				wantRow(t, m, row(up(51, 2), alike(many, 19, 2), []tick{{depth, 2}}, alike(hold-1, 19, 2),
					[]tick{{19, 1}}, alike(many, 19, 1), []tick{{depth, 1}}, alike(hold-1, 19, 1), []tick{{19, 0}})...)
			}
			for _, depth := range []int{51, 52, 1000, math.MaxInt} {
				wantRow(t, m, row(up(51, 2), alike(many, 19, 2), []tick{{depth, 3}}, alike(hold-1, 19, 3),
					[]tick{{19, 2}}, alike(many, 19, 2), []tick{{depth, 3}}, alike(hold-1, 19, 3), []tick{{19, 2}})...)
				// Where there is no level more.
				wantRow(t, m, row(up(51, 3), alike(many, 19, 3), []tick{{depth, 3}}, alike(hold-1, 19, 3),
					[]tick{{19, 2}})...)
			}
		}
	}
}

// P16.1: ticks below the low mark that never are as many as it holds behind each other lead nowhere, however many
// they are altogether.
func TestNeverLongEnough(t *testing.T) {
	for hold := 2; hold <= 6; hold++ {
		for _, depth := range []int{2, 3, 5} {
			m := made{4, 2, 5, hold}
			l := up(6, 2)
			for range 20 {
				l = append(l, row(alike(hold-1, 1, 2), []tick{{depth, 2}})...)
			}
			wantRow(t, m, row(l, alike(hold-1, 1, 2), []tick{{1, 1}})...)
		}
		m := made{4, 2, 5, hold}
		l := up(6, 3)
		for range 20 {
			l = append(l, row(alike(hold-1, 1, 3), []tick{{6, 3}})...)
		}
		wantRow(t, m, row(l, alike(hold-1, 1, 3), []tick{{1, 2}})...)
	}
}

// P16.1: behind going down, and behind going up, it has held for nothing.
func TestHeldForNothingBehindATurn(t *testing.T) {
	wantRow(t, made{4, 2, 5, 3}, tick{6, 1}, tick{6, 2}, tick{6, 3}, tick{1, 3}, tick{1, 3}, tick{1, 2}, tick{1, 2},
		tick{1, 2}, tick{1, 1}, tick{1, 1}, tick{1, 1}, tick{1, 0}, tick{1, 0}, tick{1, 0}, tick{1, 0})
	wantRow(t, made{4, 2, 5, 3}, tick{6, 1}, tick{1, 1}, tick{1, 1}, tick{6, 2}, tick{1, 2}, tick{1, 2}, tick{1, 1},
		tick{6, 2}, tick{6, 3}, tick{1, 3}, tick{1, 3}, tick{6, 3}, tick{1, 3}, tick{1, 3}, tick{1, 2})
	wantRow(t, made{4, 2, 5, 3}, tick{6, 1}, tick{6, 2}, tick{1, 2}, tick{1, 2}, tick{1, 1}, tick{2, 1}, tick{1, 1},
		tick{1, 1}, tick{5, 1}, tick{1, 1}, tick{1, 1}, tick{1, 0})
}

// P16.1: a hold of 1: each tick below the low mark leads down.
func TestHoldOfOne(t *testing.T) {
	wantRow(t, made{4, 2, 5, 1}, tick{1, 0}, tick{6, 1}, tick{1, 0}, tick{1, 0}, tick{6, 1}, tick{6, 2}, tick{2, 2},
		tick{1, 1}, tick{5, 1}, tick{6, 2}, tick{6, 3}, tick{6, 3}, tick{0, 2}, tick{0, 1}, tick{3, 1}, tick{0, 0})
}

// P16.1: a low mark of 0: nothing from 0 on is below it; what is below 0 is.
func TestLowMarkOfZero(t *testing.T) {
	wantRow(t, made{4, 0, 3, 1}, tick{4, 1}, tick{4, 2}, tick{0, 2}, tick{0, 2}, tick{1, 2}, tick{3, 2}, tick{-1, 1},
		tick{0, 1}, tick{4, 2}, tick{math.MinInt, 1}, tick{-1, 0}, tick{-1, 0})
	wantRow(t, made{4, 0, 0, 2}, tick{0, 0}, tick{1, 1}, tick{1, 2}, tick{0, 2}, tick{0, 2}, tick{-1, 2}, tick{0, 2},
		tick{-1, 2}, tick{-1, 1}, tick{-1, 1}, tick{1, 2}, tick{-1, 2}, tick{-1, 1})
	for hold := 1; hold <= 5; hold++ {
		wantRow(t, made{3, 0, 3, hold}, row(up(4, 2), alike(100, 0, 2))...)
	}
}

// P16.1: a low mark as great as the high one: at it alone it has held for nothing, and stays.
func TestMarksAlike(t *testing.T) {
	for _, mark := range []int{1, 2, 5, 500, 999, 1000} {
		wantRow(t, made{4, mark, mark, 1}, tick{mark, 0}, tick{mark + 1, 1}, tick{mark, 1}, tick{mark + 1, 2},
			tick{mark - 1, 1}, tick{mark, 1}, tick{mark - 1, 0}, tick{mark - 1, 0}, tick{mark, 0}, tick{mark + 1, 1})
		wantRow(t, made{4, mark, mark, 2}, tick{mark + 1, 1}, tick{mark + 1, 2}, tick{mark - 1, 2}, tick{mark, 2},
			tick{mark - 1, 2}, tick{mark + 1, 3}, tick{mark - 1, 3}, tick{mark - 1, 2}, tick{mark - 1, 2}, tick{0, 1})
	}
}

// P16.1: one level alone: its level is 0, whatever it is told.
func TestOneLevel(t *testing.T) {
	rnd := rand.New(rand.NewSource(16))
	for hold := 1; hold <= 4; hold++ {
		m := made{1, 2, 5, hold}
		l := []tick{}
		for range 200 {
			l = append(l, tick{rnd.Intn(9) - 1, 0})
		}
		wantRow(t, m, row(l, alike(10, 6, 0), alike(10, 1, 0), []tick{{math.MaxInt, 0}, {math.MinInt, 0}})...)
	}
}

// P16.1: Level, asked any number of times at any place in a row, turns nothing: as often as the hold, and more.
func TestAskingTurnsNothing(t *testing.T) {
	rnd := rand.New(rand.NewSource(17))
	for range 300 {
		m := anyMade(rnd)
		asked, told := newGauge(t, m), newGauge(t, m)
		for range 100 {
			depth := near(rnd, m)
			is, want := asked.Tell(depth), told.Tell(depth)
			if is != want {
				t.Fatalf("%s: Tell(%d) = %d, of one that isn't asked %d", m.text(), depth, is, want)
			}
			for range rnd.Intn(2 * m.hold) {
				if asked.Level() != is {
					t.Fatalf("%s: Level() = %d, want %d", m.text(), asked.Level(), is)
				}
			}
		}
	}
}

// anyMade is one of small numbers mostly, so that it turns often.
func anyMade(rnd *rand.Rand) made {
	most := []int{3, 10, greatest}[rnd.Intn(3)]
	high := rnd.Intn(most + 1)
	return made{1 + rnd.Intn(8), rnd.Intn(high + 1), high, 1 + rnd.Intn([]int{1, 2, 4, 12}[rnd.Intn(4)])}
}

// near is a depth near to one of the marks, or at an end, or anywhere.
func near(rnd *rand.Rand, m made) int {
	switch rnd.Intn(12) {
	case 0:
		return m.low + rnd.Intn(m.high-m.low+1)
	case 1:
		return rnd.Intn(2*greatest) - greatest/2
	case 2:
		return []int{math.MinInt, -1, 0, 1, math.MaxInt}[rnd.Intn(5)]
	case 3, 4, 5:
		return m.high + rnd.Intn(3) - 1
	}
	return m.low + rnd.Intn(3) - 2
}

// P16.1: gauges told apart, tick by tick of each in turn, don't touch each other: each is as if it were alone. Some are
// made of the same numbers, and some are made while the others are under way.
func TestApart(t *testing.T) {
	rnd := rand.New(rand.NewSource(18))
	for range 50 {
		gauges, words := []*Gauge{}, []*byTicks{}
		m := anyMade(rnd)
		for n := range 400 {
			if n%80 == 0 {
				gauges, words = append(gauges, newGauge(t, m)), append(words, &byTicks{made: m})
				if n%160 == 0 {
					m = anyMade(rnd)
				}
			}
			at := rnd.Intn(len(gauges))
			depth := near(rnd, words[at].made)
			if is, want := gauges[at].Tell(depth), words[at].tell(depth); is != want {
				t.Fatalf("gauge %d, %s: Tell(%d) = %d, want %d", at, words[at].text(), depth, is, want)
			}
			for i, g := range gauges {
				if is := g.Level(); is != words[i].is {
					t.Fatalf("gauge %d, behind Tell of gauge %d: Level() = %d, want %d", i, at, is, words[i].is)
				}
			}
		}
	}
}

// P16.1: two of the same numbers, by hand.
func TestTwoByHand(t *testing.T) {
	m := made{3, 2, 5, 2}
	a, b := newGauge(t, m), newGauge(t, m)
	wantTold(t, "a", a, tick{6, 1}, tick{6, 2})
	wantLevel(t, "b, told nothing", b, 0)
	wantTold(t, "b", b, tick{6, 1}, tick{1, 1})
	wantTold(t, "a, held for nothing yet", a, tick{1, 2})
	wantTold(t, "b, held for one", b, tick{1, 0})
	wantTold(t, "a, held for one", a, tick{1, 1})
	wantTold(t, "b", b, tick{3, 0}, tick{7, 1})
	wantTold(t, "a", a, tick{1, 1}, tick{1, 0})
	wantLevel(t, "b", b, 1)
}

// wantAlike tells a row of depths, holds it against both ways to work the words out, and answers the levels.
func wantAlike(t *testing.T, m made, depths []int) []int {
	t.Helper()
	g, ticks := newGauge(t, m), &byTicks{made: m}
	levels := []int{}
	for i, depth := range depths {
		is, want := g.Tell(depth), ticks.tell(depth)
		if is != want || g.Level() != want {
			t.Fatalf("%s, told %v: Tell = %d, Level() = %d, want %d", m.text(), depths[:i+1], is, g.Level(), want)
		}
		levels = append(levels, is)
	}
	words := byWords{made: m, told: depths}
	if is, want := g.Level(), words.level(); is != want {
		t.Fatalf("%s, told %v: Level() = %d, want %d", m.text(), depths, is, want)
	}
	return levels
}

// P16.1: all rows of seven depths, each below, between, above, of gauges of few levels and short holds, with marks
// alike and apart.
func TestAllShortRows(t *testing.T) {
	for levels := 1; levels <= 4; levels++ {
		for hold := 1; hold <= 4; hold++ {
			for _, high := range []int{1, 2} {
				depths := make([]int, 7)
				for n := range 2187 {
					for i := range depths {
						depths[i] = []int{0, 1, high + 1}[n%3]
						n /= 3
					}
					wantAlike(t, made{levels, 1, high, hold}, depths)
				}
			}
		}
	}
}

// P16.1, P16.2: gauges and depths at random, each told against the chapter's words worked out apart.
func TestAtRandom(t *testing.T) {
	rnd := rand.New(rand.NewSource(19))
	for range 3000 {
		m := anyMade(rnd)
		depths := []int{}
		for range rnd.Intn(300) {
			depths = append(depths, near(rnd, m))
		}
		wantSteps(t, m, depths, wantAlike(t, m, depths))
	}
}

// wantSteps holds what follows: it goes up or down by one at a time, up only above the high mark, and down only behind
// as many ticks below the low mark as it holds, in which it didn't turn.
func wantSteps(t *testing.T, m made, depths, levels []int) {
	t.Helper()
	was, stayed := 0, 0
	for i, is := range levels {
		if is < 0 || is >= m.levels || is > was+1 || is < was-1 {
			t.Fatalf("%s: from level %d to level %d", m.text(), was, is)
		}
		if is > was && depths[i] <= m.high {
			t.Fatalf("%s: up at %d", m.text(), depths[i])
		}
		if is == was && depths[i] > m.high && is != m.levels-1 {
			t.Fatalf("%s: not up at %d", m.text(), depths[i])
		}
		stayed++
		if is < was {
			if stayed < m.hold || slices.Max(depths[i+1-m.hold:i+1]) >= m.low {
				t.Fatalf("%s: down behind %v", m.text(), depths[:i+1])
			}
		}
		if is != was {
			stayed = 0
		}
		was = is
	}
}

// P16.2: the same with loads that come and go slowly, up to the longest hold and to all levels, so that it climbs and
// falls all the way.
func TestLoadsThatComeAndGo(t *testing.T) {
	rnd := rand.New(rand.NewSource(20))
	tops, falls := 0, 0
	for n := range 120 {
		m := made{1 + rnd.Intn(8), 400, 600, 1 + rnd.Intn(50)}
		if n%6 == 0 {
			m.hold = held - rnd.Intn(2)
		}
		depths := []int{}
		for range 3 {
			depths = append(depths, waiting(rnd, 601, 2000, 8+rnd.Intn(5))...)
			depths = append(depths, waiting(rnd, 400, 600, rnd.Intn(20))...)
			depths = append(depths, waiting(rnd, 0, 399, rnd.Intn(9*m.hold))...)
		}
		levels := wantAlike(t, m, depths)
		wantSteps(t, m, depths, levels)
		if len(levels) > 0 && slices.Max(levels) == m.levels-1 {
			tops++
		}
		for i := 1; i < len(levels); i++ {
			if levels[i] < levels[i-1] {
				falls++
			}
		}
	}
	if tops != 120 || falls < 300 {
		t.Errorf("%d were at the highest level, and went down %d times: the loads are too low, or too short", tops, falls)
	}
}

// waiting is so many depths from the one to the other.
func waiting(rnd *rand.Rand, least, most, many int) []int {
	l := []int{}
	for range many {
		l = append(l, least+rnd.Intn(most-least+1))
	}
	return l
}
