package backoff

import (
	"math"
	"math/big"
	"math/rand"
	"slices"
	"strconv"
	"testing"

	"noggin/api"
)

// most is the chapter's greatest limit.
const most = 1000000

// made is what a wait is made of.
type made struct{ base, limit int }

func (m made) text() string {
	return "base " + strconv.Itoa(m.base) + ", cap " + strconv.Itoa(m.limit)
}

// may tells whether a wait may be made of that, by the chapter's words.
func (m made) may() bool {
	wrong := m.base < 1 || m.base > m.limit
	wrong = wrong || m.limit > most
	return !wrong
}

// full is the wait without jitter behind so many failures ahead of this one, by the chapter's words: in numbers of any
// length, so that nothing needs to end early.
func (m made) full(ahead int) *big.Int {
	doubled := new(big.Int).Lsh(big.NewInt(int64(m.base)), uint(ahead))
	if limit := big.NewInt(int64(m.limit)); doubled.Cmp(limit) > 0 {
		return limit
	}
	return doubled
}

// byWords is the wait that one failure more leads to, by the chapter's words.
func (m made) byWords(ahead, jitter int) int {
	full := m.full(ahead)
	turn := new(big.Int).Rsh(full, 1)
	turn.Add(turn, big.NewInt(1))
	less := new(big.Int)
	if jitter > 0 {
		less.Mod(big.NewInt(int64(jitter)), turn)
	}
	return int(full.Sub(full, less).Int64())
}

func newWait(t *testing.T, m made) *Wait {
	t.Helper()
	w, err := New(m.base, m.limit)
	if err != nil || w == nil {
		t.Fatalf("%s: New = %v, %v", m.text(), w, err)
	}
	return w
}

// wantFails asks twice: asking turns nothing.
func wantFails(t *testing.T, name string, w *Wait, many int) {
	t.Helper()
	for range 2 {
		if is := w.Fails(); is != many {
			t.Errorf("%s: Fails() = %d, want %d", name, is, many)
		}
	}
}

// deed is one call, and what is wanted of it: a Good, or a Fail with its jitter and its wait; and the failures then.
type deed struct {
	good         bool
	jitter, wait int
	fails        int
}

func fail(jitter, wait, fails int) deed { return deed{jitter: jitter, wait: wait, fails: fails} }

func good() deed { return deed{good: true} }

// plain are failures without jitter behind a Good, or behind none.
func plain(waits ...int) []deed {
	l := []deed{}
	for i, wait := range waits {
		l = append(l, fail(0, wait, i+1))
	}
	return l
}

// alike is one number, so often.
func alike(many, n int) []int { return slices.Repeat([]int{n}, many) }

// row is lists behind each other.
func row[T any](l ...[]T) []T { return slices.Concat(l...) }

func (d deed) text() string {
	if d.good {
		return "Good()"
	}
	return "Fail(" + strconv.Itoa(d.jitter) + ")"
}

func wantDeed(t *testing.T, name string, w *Wait, d deed) {
	t.Helper()
	if d.good {
		w.Good()
	} else if wait := w.Fail(d.jitter); wait != d.wait {
		t.Errorf("%s: %s = %d, want %d", name, d.text(), wait, d.wait)
	}
}

func wantDone(t *testing.T, name string, w *Wait, l ...deed) {
	t.Helper()
	for i, d := range l {
		at := name + ": row " + strconv.Itoa(i)
		wantDeed(t, at, w, d)
		wantFails(t, at+": behind "+d.text(), w, d.fails)
	}
}

// wantRow is that of a wait of its own, asked ahead of the first one too, and again of one that is asked nothing but
// behind the last.
func wantRow(t *testing.T, m made, l ...deed) {
	t.Helper()
	w := newWait(t, m)
	wantFails(t, m.text()+": at its beginning", w, 0)
	wantDone(t, m.text(), w, l...)
	w = newWait(t, m)
	many := 0
	for i, d := range l {
		wantDeed(t, m.text()+", not asked: row "+strconv.Itoa(i), w, d)
		many = d.fails
	}
	wantFails(t, m.text()+", not asked till now", w, many)
}

// wantNew holds what New answers against the chapter's words.
func wantNew(t *testing.T, m made) {
	t.Helper()
	w, err := New(m.base, m.limit)
	if !m.may() {
		if w != nil || err != api.ErrArg {
			t.Errorf("%s: New = %v, %v, want nil, %v", m.text(), w, err, api.ErrArg)
		}
		return
	}
	if w == nil || err != nil {
		t.Errorf("%s: New = %v, %v", m.text(), w, err)
		return
	}
	if many := w.Fails(); many != 0 {
		t.Errorf("%s: Fails() = %d at its beginning", m.text(), many)
	}
	if wait := w.Fail(0); wait != m.base {
		t.Errorf("%s: Fail(0) = %d, its first one", m.text(), wait)
	}
}

// edges are numbers at the ends of what New's may be, and far from them.
func edges() []int {
	return []int{math.MinInt, math.MinInt + 1, math.MinInt32, -most, -2, -1, 0, 1, 2, 3, 10, 1000, most / 2, most - 2,
		most - 1, most, most + 1, most + 2, 2 * most, math.MaxInt32, math.MaxInt - 1, math.MaxInt}
}

// P22.1, P1: both of New's numbers at the edges: what is amiss, and what isn't, by hand.
func TestNewByHand(t *testing.T) {
	rows := []struct {
		made
		may bool
	}{
		{made{-1, 10}, false}, {made{0, 10}, false}, {made{1, 10}, true}, {made{9, 10}, true}, {made{10, 10}, true},
		{made{11, 10}, false}, {made{math.MinInt, 10}, false}, {made{math.MaxInt, 10}, false},

		{made{-1, 1}, false}, {made{0, 1}, false}, {made{1, 1}, true}, {made{2, 1}, false},
		{made{math.MinInt, 1}, false}, {made{math.MaxInt, 1}, false},

		{made{-1, most}, false}, {made{0, most}, false}, {made{1, most}, true}, {made{999999, most}, true},
		{made{1000000, 1000000}, true}, {made{1000001, 1000000}, false}, {made{math.MinInt, most}, false},
		{made{math.MaxInt, most}, false},

		{made{1, 999999}, true}, {made{999999, 999999}, true}, {made{1000000, 999999}, false},

		{made{-1, 1000001}, false}, {made{0, 1000001}, false}, {made{1, 1000001}, false},
		{made{1000000, 1000001}, false}, {made{1000001, 1000001}, false}, {made{1000002, 1000001}, false},
		{made{math.MinInt, 1000001}, false}, {made{math.MaxInt, 1000001}, false},

		{made{-1, 0}, false}, {made{0, 0}, false}, {made{1, 0}, false}, {made{math.MinInt, 0}, false},
		{made{math.MaxInt, 0}, false},

		{made{-2, -1}, false}, {made{-1, -1}, false}, {made{0, -1}, false}, {made{1, -1}, false},
		{made{math.MinInt, -1}, false}, {made{math.MaxInt, -1}, false},

		{made{-1, math.MinInt}, false}, {made{0, math.MinInt}, false}, {made{1, math.MinInt}, false},
		{made{math.MinInt, math.MinInt}, false}, {made{math.MaxInt, math.MinInt}, false},

		{made{-1, math.MaxInt}, false}, {made{0, math.MaxInt}, false}, {made{1, math.MaxInt}, false},
		{made{most, math.MaxInt}, false}, {made{math.MaxInt - 1, math.MaxInt}, false},
		{made{math.MaxInt, math.MaxInt}, false}, {made{math.MinInt, math.MaxInt}, false},
	}
	for _, r := range rows {
		if r.made.may() != r.may {
			t.Errorf("%s: by the words it may be: %v", r.text(), !r.may)
		}
		wantNew(t, r.made)
	}
}

// P22.1, P1: both of New's numbers at the edges at once, and at random.
func TestNewOfEdges(t *testing.T) {
	for _, base := range edges() {
		for _, limit := range edges() {
			wantNew(t, made{base, limit})
		}
	}
	rnd := rand.New(rand.NewSource(1))
	for range 20000 {
		wantNew(t, made{int(rnd.Uint64()) >> rnd.Intn(64), int(rnd.Uint64()) >> rnd.Intn(64)})
	}
}

// P22.1: each base, and each limit, that may be or is near to what may be.
func TestNewOfEach(t *testing.T) {
	for n := -70; n <= most+70; n++ {
		wantNew(t, made{n, most})
		wantNew(t, made{n, 500})
		wantNew(t, made{n, n})
		wantNew(t, made{n, n - 1})
		wantNew(t, made{n, n + 1})
		wantNew(t, made{1, n})
		wantNew(t, made{500, n})
	}
}

// P22.1: an error is ErrArg itself, each time, and what was made ahead of it goes on.
func TestNewThatFailsTouchesNone(t *testing.T) {
	w := newWait(t, made{3, 20})
	for _, d := range row(plain(3, 6, 12, 20, 20), []deed{good()}, plain(3, 6), []deed{good()}, plain(3)) {
		for _, m := range []made{{0, 20}, {-1, 20}, {21, 20}, {3, most + 1}, {most + 1, most + 1}, {0, 0}} {
			wantNew(t, m)
		}
		wantDone(t, "behind New that fails", w, d)
	}
}

// P22.1: the chapter's example.
func TestExample(t *testing.T) {
	wantRow(t, made{2, 10}, fail(0, 2, 1), fail(0, 4, 2), fail(0, 8, 3), fail(0, 10, 4))
	wantRow(t, made{2, 10}, row(plain(2, 4, 8, 10, 10, 10), []deed{good()}, plain(2, 4, 8, 10))...)
}

// P22.1: the base doubled, at most the cap: where the cap is a doubling of the base, where it isn't one, where it is
// the base itself, and one beside each.
func TestDoublingByHand(t *testing.T) {
	wantRow(t, made{3, 24}, plain(row([]int{3, 6, 12}, alike(30, 24))...)...)
	wantRow(t, made{3, 23}, plain(row([]int{3, 6, 12}, alike(30, 23))...)...)
	wantRow(t, made{3, 25}, plain(row([]int{3, 6, 12, 24}, alike(30, 25))...)...)
	wantRow(t, made{3, 20}, plain(row([]int{3, 6, 12}, alike(30, 20))...)...)
	wantRow(t, made{3, 13}, plain(row([]int{3, 6, 12}, alike(30, 13))...)...)
	wantRow(t, made{3, 12}, plain(row([]int{3, 6}, alike(30, 12))...)...)
	wantRow(t, made{3, 5}, plain(row([]int{3}, alike(30, 5))...)...)
	wantRow(t, made{3, 6}, plain(row([]int{3}, alike(30, 6))...)...)
	wantRow(t, made{3, 7}, plain(row([]int{3, 6}, alike(30, 7))...)...)
	wantRow(t, made{3, 4}, plain(row([]int{3}, alike(30, 4))...)...)
	wantRow(t, made{3, 3}, plain(alike(30, 3)...)...)
	wantRow(t, made{1, 1}, plain(alike(30, 1)...)...)
	wantRow(t, made{1, 2}, plain(row([]int{1}, alike(30, 2))...)...)
	wantRow(t, made{1, 3}, plain(row([]int{1, 2}, alike(30, 3))...)...)
	wantRow(t, made{most, most}, plain(alike(30, most)...)...)
	wantRow(t, made{most - 1, most}, plain(row([]int{most - 1}, alike(30, most))...)...)
	wantRow(t, made{most / 2, most}, plain(row([]int{500000}, alike(30, most))...)...)
	wantRow(t, made{most/2 - 1, most}, plain(row([]int{499999, 999998}, alike(30, most))...)...)
	wantRow(t, made{most/2 + 1, most}, plain(row([]int{500001}, alike(30, most))...)...)
	wantRow(t, made{1, most}, plain(row([]int{1, 2, 4, 8, 16, 32, 64, 128, 256, 512, 1024, 2048, 4096, 8192, 16384,
		32768, 65536, 131072, 262144, 524288}, alike(30, 1000000))...)...)
	wantRow(t, made{1, 524288}, plain(row([]int{1, 2, 4, 8, 16, 32, 64, 128, 256, 512, 1024, 2048, 4096, 8192, 16384,
		32768, 65536, 131072, 262144}, alike(30, 524288))...)...)
}

// P22.1: each base with each cap up to where all of it can be gone through, and caps near to its doublings.
func TestDoublingOfEach(t *testing.T) {
	for base := 1; base <= 70; base++ {
		for limit := base; limit <= 300; limit++ {
			wantPlain(t, made{base, limit}, 12)
		}
	}
	for _, base := range []int{1, 2, 3, 7, 1000, 4095, 65536, 99999} {
		for doubled := base; doubled <= most; doubled *= 2 {
			for limit := max(doubled-2, base); limit <= min(doubled+2, most); limit++ {
				wantPlain(t, made{base, limit}, 25)
			}
		}
	}
}

// wantPlain holds so many waits without jitter against the chapter's words.
func wantPlain(t *testing.T, m made, many int) {
	t.Helper()
	w := newWait(t, m)
	for ahead := range many {
		if is, want := w.Fail(0), m.byWords(ahead, 0); is != want {
			t.Errorf("%s: Fail(0) behind %d others = %d, want %d", m.text(), ahead, is, want)
		}
		if w.Fails() != ahead+1 {
			t.Errorf("%s: Fails() = %d, want %d", m.text(), w.Fails(), ahead+1)
		}
	}
}

// P22.1, P1: so many failures that, doubled as often as there were, the base would be above the greatest number there
// is, or come round to 0, or below it: it is the cap all the same.
func TestManyFailures(t *testing.T) {
	for _, m := range []made{{1, 1}, {1, 2}, {1, 3}, {1, most}, {2, 10}, {3, 20}, {3, 24}, {4095, most}, {most, most},
		{most - 1, most}, {most / 2, most}, {65536, 65536}, {65536, 131071}} {
		wantPlain(t, m, 1000)
		w := newWait(t, m)
		for range 20 {
			w.Fail(0)
		}
		for many := 21; many <= 300000; many++ {
			jitter := many % 3
			if is, want := w.Fail(jitter), m.limit-jitter%(m.limit/2+1); is != want {
				t.Fatalf("%s: Fail(%d) = %d, failure %d, want %d", m.text(), jitter, is, many, want)
			}
			if w.Fails() != many {
				t.Fatalf("%s: Fails() = %d, want %d", m.text(), w.Fails(), many)
			}
		}
		w.Good()
		wantFails(t, m.text()+": behind Good", w, 0)
		wantDone(t, m.text()+": behind Good", w, fail(0, m.base, 1), fail(0, min(2*m.base, m.limit), 2))
	}
}

// P22.1: jitters by hand, for waits that are even, odd, and 1.
func TestJitterByHand(t *testing.T) {
	rows := []struct {
		wait int
		// left are jitters, each with what is left then.
		left [][2]int
	}{
		{1, [][2]int{{0, 1}, {1, 1}, {2, 1}, {3, 1}, {1000, 1}, {-1, 1}, {math.MinInt, 1}, {math.MaxInt, 1}}},
		{2, [][2]int{{0, 2}, {1, 1}, {2, 2}, {3, 1}, {4, 2}, {-1, 2}, {-2, 2}, {math.MinInt, 2}, {math.MaxInt, 1}}},
		{3, [][2]int{{0, 3}, {1, 2}, {2, 3}, {3, 2}, {4, 3}, {-1, 3}, {-3, 3}, {math.MinInt, 3}, {math.MaxInt, 2}}},
		{4, [][2]int{{0, 4}, {1, 3}, {2, 2}, {3, 4}, {4, 3}, {5, 2}, {6, 4}, {-1, 4}, {-2, 4}, {math.MaxInt, 3}}},
		{5, [][2]int{{0, 5}, {1, 4}, {2, 3}, {3, 5}, {4, 4}, {5, 3}, {6, 5}, {-1, 5}, {-2, 5}, {math.MaxInt, 4}}},
		{6, [][2]int{{0, 6}, {1, 5}, {2, 4}, {3, 3}, {4, 6}, {5, 5}, {6, 4}, {7, 3}, {8, 6}, {-3, 6}, {math.MaxInt, 3}}},
		{7, [][2]int{{0, 7}, {1, 6}, {2, 5}, {3, 4}, {4, 7}, {5, 6}, {6, 5}, {7, 4}, {8, 7}, {-3, 7}, {math.MaxInt, 4}}},
		{10, [][2]int{{0, 10}, {1, 9}, {4, 6}, {5, 5}, {6, 10}, {7, 9}, {11, 5}, {12, 10}, {-5, 10}, {math.MaxInt, 9}}},
		{11, [][2]int{{0, 11}, {1, 10}, {4, 7}, {5, 6}, {6, 11}, {7, 10}, {11, 6}, {12, 11}, {-5, 11}, {math.MaxInt, 10}}},
		{most - 1, [][2]int{{0, 999999}, {1, 999998}, {499998, 500001}, {499999, 500000}, {500000, 999999},
			{500001, 999998}, {1000000, 999999}, {-1, 999999}, {-499999, 999999}, {math.MinInt, 999999}}},
		{most, [][2]int{{0, 1000000}, {1, 999999}, {499999, 500001}, {500000, 500000}, {500001, 1000000},
			{500002, 999999}, {1000002, 1000000}, {-1, 1000000}, {-500000, 1000000}, {math.MinInt, 1000000}}},
	}
	for _, r := range rows {
		for _, left := range r.left {
			wantRow(t, made{r.wait, r.wait}, fail(left[0], left[1], 1))
			wantRow(t, made{r.wait, most}, fail(left[0], left[1], 1))
			wantRow(t, made{1, r.wait}, row(manyAhead(r.wait), []deed{fail(left[0], left[1], len(manyAhead(r.wait))+1)})...)
		}
	}
}

// manyAhead are failures that lead from 1 on to a cap.
func manyAhead(limit int) []deed {
	waits := []int{}
	for n := 1; n < limit; n *= 2 {
		waits = append(waits, n)
	}
	return plain(waits...)
}

// P22.1: jitters in a row of failures, by hand: each is for its own wait.
func TestJittersInARow(t *testing.T) {
	wantRow(t, made{3, 20}, fail(0, 3, 1), fail(3, 3, 2), fail(6, 6, 3), fail(-5, 20, 4), fail(11, 20, 5),
		fail(10, 10, 6), fail(1, 19, 7), fail(12, 19, 8), good(), fail(1, 2, 1), fail(1, 5, 2), fail(1, 11, 3),
		fail(1, 19, 4))
	wantRow(t, made{1, 9}, fail(math.MaxInt, 1, 1), fail(math.MaxInt, 1, 2), fail(math.MaxInt, 3, 3), fail(4, 4, 4),
		fail(4, 5, 5), fail(5, 9, 6), fail(math.MinInt, 9, 7), fail(math.MinInt+1, 9, 8), fail(-9, 9, 9))
	wantRow(t, made{2, 10}, fail(1, 1, 1), fail(2, 2, 2), fail(4, 4, 3), fail(5, 5, 4), fail(6, 10, 5), fail(4, 6, 6))
	wantRow(t, made{2, 10}, fail(2, 2, 1), fail(3, 4, 2), fail(5, 8, 3), fail(6, 10, 4), fail(7, 9, 5), fail(8, 8, 6))
}

// P22.1: each jitter with each wait, gone round by counting: at half of the wait, cut off, it begins anew.
func TestJitterOfEach(t *testing.T) {
	for wait := 1; wait <= 150; wait++ {
		less := 0
		for jitter := range 4*wait + 9 {
			want := wait - less
			for _, m := range []made{{wait, wait}, {wait, wait + 1}, {wait, most}} {
				if is := newWait(t, m).Fail(jitter); is != want {
					t.Errorf("%s: Fail(%d) = %d, want %d", m.text(), jitter, is, want)
				}
				if is := newWait(t, m).Fail(-jitter); is != wait {
					t.Errorf("%s: Fail(%d) = %d, want %d", m.text(), -jitter, is, wait)
				}
			}
			less++
			if less*2 > wait {
				less = 0
			}
		}
	}
}

// jitters are those at the edges of a wait, its half, and all numbers.
func jitters(wait int) []int {
	l := edges()
	for _, n := range []int{0, 1, wait / 2, wait, 2 * (wait/2 + 1), 3 * (wait/2 + 1)} {
		l = append(l, n-2, n-1, n, n+1, n+2, -n-1, -n)
	}
	return l
}

// mades are of all kinds: caps that are a doubling of the base, that are none, and that are the base itself.
func mades() []made {
	l := []made{{1, 1}, {1, 2}, {1, 3}, {1, 4}, {1, 5}, {1, 999999}, {1, most}, {2, 2}, {2, 3}, {2, 4}, {2, 5}, {2, 10},
		{3, 20}, {3, 24}, {5, 5}, {7, 56}, {7, 57}, {7, 55}, {9, 999}, {10, 10}, {10, 11}, {999, 1000}, {1000, 1000},
		{65535, most}, {65536, 524288}, {499999, 999999}, {most / 2, most}, {most - 1, most - 1}, {most - 1, most},
		{most, most}}
	return l
}

// P22.1, P22.2: behind any number of failures each jitter at the edges, against the chapter's words.
func TestJitterAtTheEdges(t *testing.T) {
	for _, m := range mades() {
		for _, ahead := range []int{0, 1, 2, 3, 4, 5, 18, 19, 20, 21, 30, 31, 32, 33, 61, 62, 63, 64, 65, 128, 300} {
			for _, jitter := range jitters(int(m.full(ahead).Int64())) {
				w := newWait(t, m)
				for range ahead {
					w.Fail(0)
				}
				wantWait(t, m, w, ahead, jitter)
			}
		}
	}
}

// wantWait is one failure, held against the chapter's words, and against what follows from them.
func wantWait(t *testing.T, m made, w *Wait, ahead, jitter int) {
	t.Helper()
	full := int(m.full(ahead).Int64())
	is := w.Fail(jitter)
	if want := m.byWords(ahead, jitter); is != want {
		t.Fatalf("%s: Fail(%d) behind %d others = %d, want %d", m.text(), jitter, ahead, is, want)
	}
	if is*2 < full || is < 1 || is > full || is > m.limit {
		t.Fatalf("%s: Fail(%d) behind %d others = %d, without jitter %d", m.text(), jitter, ahead, is, full)
	}
	if w.Fails() != ahead+1 {
		t.Fatalf("%s: Fails() = %d behind %d others", m.text(), w.Fails(), ahead)
	}
}

// P22.1: a jitter changes only the wait that it is told for: whatever jitters came ahead of it, the next one is that
// of a wait that was told none.
func TestJitterIsForItsWaitAlone(t *testing.T) {
	rnd := rand.New(rand.NewSource(2))
	for _, m := range mades() {
		for range 30 {
			with, without := newWait(t, m), newWait(t, m)
			for ahead := range 40 {
				with.Fail(anyJitter(rnd, int(m.full(ahead).Int64())))
				without.Fail(0)
				a, b := *with, *without
				jitter := anyJitter(rnd, int(m.full(ahead+1).Int64()))
				if is, want := a.Fail(jitter), b.Fail(jitter); is != want {
					t.Fatalf("%s: Fail(%d) = %d, behind no jitters %d", m.text(), jitter, is, want)
				}
				if *with != *without {
					t.Fatalf("%s: %v, behind no jitters %v", m.text(), *with, *without)
				}
			}
		}
	}
}

// P22.1: Good behind none, one and many failures, and behind itself: Fails is 0, and the next wait is the base again.
func TestGood(t *testing.T) {
	wantRow(t, made{3, 20}, good())
	wantRow(t, made{3, 20}, good(), good(), good(), fail(0, 3, 1), fail(0, 6, 2))
	wantRow(t, made{3, 20}, fail(0, 3, 1), good(), fail(0, 3, 1), good(), fail(0, 3, 1), fail(0, 6, 2), good(), good(),
		fail(0, 3, 1), fail(0, 6, 2), fail(0, 12, 3), fail(0, 20, 4), fail(0, 20, 5), good(), fail(0, 3, 1))
	wantRow(t, made{3, 20}, fail(1, 2, 1), good(), fail(1, 2, 1), fail(3, 3, 2), good(), fail(-1, 3, 1), fail(7, 3, 2))
	wantRow(t, made{1, 1}, good(), fail(0, 1, 1), fail(0, 1, 2), good(), fail(0, 1, 1))
	wantRow(t, made{most, most}, good(), fail(0, most, 1), fail(1, most-1, 2), good(), fail(0, most, 1))
	for _, m := range mades() {
		w := newWait(t, m)
		for _, many := range []int{0, 1, 2, 3, 19, 20, 21, 22, 63, 64, 65, 300, 0, 0, 5} {
			for ahead := range many {
				wantWait(t, m, w, ahead, 0)
			}
			w.Good()
			wantFails(t, m.text()+": behind Good", w, 0)
			// One that went well is as one that is new.
			if *w != *newWait(t, m) {
				t.Errorf("%s: %v behind %d failures and a Good", m.text(), *w, many)
			}
		}
	}
}

// P22.1: Fails, behind each call, of many failures, and asked any number of times.
func TestFails(t *testing.T) {
	for _, m := range mades() {
		asked, told := newWait(t, m), newWait(t, m)
		wantFails(t, m.text(), asked, 0)
		for many := 1; many <= 500; many++ {
			is, want := asked.Fail(many), told.Fail(many)
			if is != want {
				t.Errorf("%s: Fail(%d) = %d, of one that isn't asked %d", m.text(), many, is, want)
			}
			for range many % 7 {
				wantFails(t, m.text(), asked, many)
			}
		}
		wantFails(t, m.text()+", not asked till now", told, 500)
	}
}

// P22.1: two waits know nothing of each other, whether they are made of the same numbers or of others.
func TestTwoByHand(t *testing.T) {
	a, b, c := newWait(t, made{3, 20}), newWait(t, made{3, 20}), newWait(t, made{2, 10})
	wantDone(t, "a", a, fail(0, 3, 1), fail(0, 6, 2), fail(2, 10, 3))
	wantFails(t, "b, told nothing", b, 0)
	wantDone(t, "b", b, fail(0, 3, 1))
	wantDone(t, "c", c, fail(0, 2, 1), fail(0, 4, 2))
	wantDone(t, "a", a, fail(0, 20, 4))
	b.Good()
	wantFails(t, "a, behind b's Good", a, 4)
	wantFails(t, "c, behind b's Good", c, 2)
	wantDone(t, "c", c, fail(0, 8, 3), fail(0, 10, 4))
	wantDone(t, "b", b, fail(1, 2, 1), fail(0, 6, 2))
	wantDone(t, "a", a, good(), fail(0, 3, 1))
	wantFails(t, "b, behind a's Good", b, 2)
	wantDone(t, "d, new", newWait(t, made{3, 20}), fail(0, 3, 1))
	wantDone(t, "b", b, fail(0, 12, 3))
}

// P22.1: many waits, told in turn, each as if it were alone; some are made while the others are under way.
func TestApart(t *testing.T) {
	rnd := rand.New(rand.NewSource(3))
	for range 40 {
		waits, of, ahead := []*Wait{}, []made{}, []int{}
		m := anyMade(rnd)
		for n := range 400 {
			if n%80 == 0 {
				waits, of, ahead = append(waits, newWait(t, m)), append(of, m), append(ahead, 0)
				if n%160 == 0 {
					m = anyMade(rnd)
				}
			}
			at := rnd.Intn(len(waits))
			if rnd.Intn(12) == 0 {
				waits[at].Good()
				ahead[at] = 0
			} else {
				wantWait(t, of[at], waits[at], ahead[at], anyJitter(rnd, of[at].limit))
				ahead[at]++
			}
			for i, w := range waits {
				if w.Fails() != ahead[i] {
					t.Fatalf("wait %d, behind a deed of wait %d: Fails() = %d, want %d", i, at, w.Fails(), ahead[i])
				}
			}
		}
	}
}

// anyMade is one of any size, whose cap is a doubling of the base, near to one, the base itself, or any.
func anyMade(rnd *rand.Rand) made {
	base := 1 + rnd.Intn(most)>>rnd.Intn(20)
	limit := base + rnd.Intn(most-base+1)
	switch rnd.Intn(4) {
	case 0:
		limit = base
	case 1:
		limit = base<<rnd.Intn(20) + rnd.Intn(3) - 1
	case 2:
		limit = base + rnd.Intn(most-base+1)>>rnd.Intn(20)
	}
	return made{base, min(max(limit, base), most)}
}

// anyJitter is one near to the edges of a wait, or of any height.
func anyJitter(rnd *rand.Rand, wait int) int {
	switch rnd.Intn(4) {
	case 0:
		return jitters(wait)[rnd.Intn(len(jitters(wait)))]
	case 1:
		return rnd.Intn(3*wait) - wait/2
	case 2:
		return int(rnd.Uint64()) >> rnd.Intn(64)
	}
	return rnd.Intn(wait/2 + 1)
}

// P22.1, P22.2: all lists of six of a few deeds, of waits of small numbers, against the chapter's words.
func TestAllShortLists(t *testing.T) {
	const goods = 5 // the place of Good
	each := []int{0, 1, 2, 3, -1, goods}
	for _, m := range []made{{1, 1}, {1, 2}, {1, 3}, {1, 7}, {2, 5}, {2, 8}, {3, 3}, {3, 11}} {
		for list := range 6 * 6 * 6 * 6 * 6 * 6 {
			w, ahead := newWait(t, m), 0
			for range 6 {
				if list%6 == goods {
					w.Good()
					ahead = 0
					wantFails(t, m.text(), w, 0)
				} else {
					wantWait(t, m, w, ahead, each[list%6])
					ahead++
				}
				list /= 6
			}
		}
	}
}

// P22.1, P22.2, P1: waits and jitters at random, each told against the chapter's words worked out apart.
func TestAtRandom(t *testing.T) {
	rnd := rand.New(rand.NewSource(4))
	for range 6000 {
		m := anyMade(rnd)
		w, ahead := newWait(t, m), 0
		for range rnd.Intn(80) {
			if rnd.Intn(20) == 0 {
				w.Good()
				ahead = 0
				continue
			}
			wantWait(t, m, w, ahead, anyJitter(rnd, int(m.full(ahead).Int64())))
			ahead++
		}
		if w.Fails() != ahead {
			t.Fatalf("%s: Fails() = %d, want %d", m.text(), w.Fails(), ahead)
		}
	}
}

// P22.2: the bounds are reached: with the jitters there are, each wait from half of the whole one, rounded up, to the
// whole one is told, and none beside them.
func TestBoundsAreReached(t *testing.T) {
	for _, m := range []made{{1, 1}, {2, 2}, {3, 3}, {1, 9}, {2, 10}, {3, 20}, {7, 500}, {100, 101}, {51, 1000}} {
		for ahead := range 12 {
			full := int(m.full(ahead).Int64())
			told := map[int]int{}
			for jitter := -3; jitter <= full+3; jitter++ {
				w := newWait(t, m)
				for range ahead {
					w.Fail(jitter)
				}
				told[w.Fail(jitter)]++
			}
			for wait := (full + 1) / 2; wait <= full; wait++ {
				if told[wait] == 0 {
					t.Errorf("%s: no jitter leads to %d behind %d others", m.text(), wait, ahead)
				}
			}
			if many := full - (full+1)/2 + 1; len(told) != many {
				t.Errorf("%s: %d waits behind %d others, want %d", m.text(), len(told), ahead, many)
			}
		}
	}
}
