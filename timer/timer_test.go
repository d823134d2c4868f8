package timer

import (
	"cmp"
	"math"
	"math/rand"
	"slices"
	"strconv"
	"testing"

	"noggin/api"
)

// most is the chapter's greatest number of those that are there.
const most = 50

// byWords is a queue by the chapter's words: those that are there, in the order in which they were set.
type byWords struct{ there []Due }

func (w *byWords) set(at, what int) error {
	if at < 0 {
		return api.ErrArg
	}
	if len(w.there) == most {
		return api.ErrFull
	}
	w.there = append(w.there, Due{at, what})
	return nil
}

// first is the place of the one that is due first, or -1.
func (w *byWords) first() int {
	first := -1
	for i, d := range w.there {
		if first == -1 || d.At < w.there[first].At {
			first = i
		}
	}
	return first
}

func (w *byWords) next() (Due, bool) {
	if first := w.first(); first != -1 {
		return w.there[first], true
	}
	return Due{}, false
}

func (w *byWords) take(now int) []Due {
	taken := []Due{}
	for {
		first := w.first()
		if first == -1 || w.there[first].At > now {
			return taken
		}
		taken = append(taken, w.there[first])
		w.there = slices.Delete(w.there, first, first+1)
	}
}

// edges are numbers at the ends of those there are, at the least At that may be, and at the ticks of small queues.
func edges() []int {
	return []int{math.MinInt, math.MinInt + 1, math.MinInt32, -1 << 40, -50, -2, -1, 0, 1, 2, 49, 50, 51, 1 << 40,
		math.MaxInt32, math.MaxInt - 1, math.MaxInt}
}

func text(l []Due) string {
	s := ""
	for i, d := range l {
		if i > 0 {
			s += ", "
		}
		s += strconv.Itoa(d.At) + "/" + strconv.Itoa(d.What)
	}
	return s
}

// at are some of those Ats, whose Whats are their places, from 0 on.
func at(ats ...int) []Due {
	l := []Due{}
	for i, a := range ats {
		l = append(l, Due{a, i})
	}
	return l
}

// numbered are so many of one At, whose Whats are the numbers from a first one on.
func numbered(many, at, first int) []Due {
	l := []Due{}
	for i := range many {
		l = append(l, Due{at, first + i})
	}
	return l
}

// setAll sets those, in their order.
func setAll(t *testing.T, q *Queue, l ...Due) {
	t.Helper()
	for i, d := range l {
		if err := q.Set(d.At, d.What); err != nil {
			t.Fatalf("Set %d of %s = %v", i, text(l), err)
		}
	}
}

// newOf is a new queue in which those were set, in their order.
func newOf(t *testing.T, l ...Due) *Queue {
	t.Helper()
	q := New()
	if q == nil {
		t.Fatal("New() = nil")
	}
	setAll(t, q, l...)
	return q
}

// wantNone holds that there is none, which asking doesn't change.
func wantNone(t *testing.T, name string, q *Queue) {
	t.Helper()
	for range 2 {
		if d, is := q.Next(); is || d != (Due{}) {
			t.Errorf("%s: Next() of none = %v, %v", name, d, is)
		}
		if many := q.Len(); many != 0 {
			t.Errorf("%s: Len() of none = %d", name, many)
		}
	}
}

// wantNext holds how many there are, and which one is due first, which asking doesn't change.
func wantNext(t *testing.T, name string, q *Queue, many int, next Due) {
	t.Helper()
	for range 3 {
		if d, is := q.Next(); !is || d != next {
			t.Errorf("%s: Next() = %v, %v, want %v", name, d, is, next)
		}
		if n := q.Len(); n != many {
			t.Errorf("%s: Len() = %d, want %d", name, n, many)
		}
	}
}

func wantTaken(t *testing.T, name string, q *Queue, now int, l ...Due) {
	t.Helper()
	many := q.Len()
	if taken := q.Take(now); !slices.Equal(taken, l) {
		t.Errorf("%s: Take(%d) = %s, want %s", name, now, text(taken), text(l))
	}
	if left := q.Len(); left != many-len(l) {
		t.Errorf("%s: behind Take(%d) of %d Len() = %d, want %d", name, now, many, left, many-len(l))
	}
}

// wantAll holds that just those are there, in the order in which they are due, and takes them.
func wantAll(t *testing.T, name string, q *Queue, l ...Due) {
	t.Helper()
	if len(l) > 0 {
		wantNext(t, name, q, len(l), l[0])
	}
	wantTaken(t, name, q, math.MaxInt, l...)
	wantNone(t, name, q)
}

func wantNoSet(t *testing.T, name string, q *Queue, at, what int, want error) {
	t.Helper()
	if err := q.Set(at, what); err != want {
		t.Errorf("%s: Set(%d, %d) = %v, want %v", name, at, what, err, want)
	}
}

// both are a queue, and one by the chapter's words in which the same is done.
type both struct {
	q *Queue
	w byWords
}

// wantAlike holds that both have as many, of which the same one is due first.
func (b *both) wantAlike(t *testing.T) {
	t.Helper()
	d, is := b.q.Next()
	next, isNext := b.w.next()
	if d != next || is != isNext || b.q.Len() != len(b.w.there) {
		t.Fatalf("of %s, as they were set: Next() = %v, %v, Len() = %d, want %v, %v, %d",
			text(b.w.there), d, is, b.q.Len(), next, isNext, len(b.w.there))
	}
}

func (b *both) set(t *testing.T, at, what int) error {
	t.Helper()
	was := slices.Clone(b.w.there)
	err, want := b.q.Set(at, what), b.w.set(at, what)
	if err != want {
		t.Fatalf("of %s, as they were set: Set(%d, %d) = %v, want %v", text(was), at, what, err, want)
	}
	b.wantAlike(t)
	return err
}

func (b *both) take(t *testing.T, now int) []Due {
	t.Helper()
	was := slices.Clone(b.w.there)
	taken, want := b.q.Take(now), b.w.take(now)
	if !slices.Equal(taken, want) {
		t.Fatalf("of %s, as they were set: Take(%d) = %s, want %s", text(was), now, text(taken), text(want))
	}
	b.wantAlike(t)
	return taken
}

// P13.1: a new queue has none, and tells none at any time.
func TestNew(t *testing.T) {
	wantNone(t, "a new one", newOf(t))
	q := newOf(t)
	for _, now := range edges() {
		wantTaken(t, "a new one", newOf(t), now)
		wantTaken(t, "one of which none was taken", q, now)
		wantNone(t, "behind a Take of none", q)
	}
	setAll(t, q, at(0)...)
	wantNone(t, "one that is made behind another one's Set", newOf(t))
	wantAll(t, "the one ahead of it", q, at(0)...)
}

// P13.1: the chapter's example.
func TestExample(t *testing.T) {
	q := newOf(t, Due{5, 7}, Due{3, 8})
	wantNext(t, "the example", q, 2, Due{3, 8})
	wantTaken(t, "the example", q, 9, Due{3, 8}, Due{5, 7})
	wantNone(t, "behind the example", q)
}

// P13.1: an At that may be, or may not, with any What, in an empty queue and in one of some.
func TestSetOfEdges(t *testing.T) {
	some := at(0, 50, math.MaxInt)
	for _, a := range edges() {
		for _, what := range edges() {
			name := "Set(" + strconv.Itoa(a) + ", " + strconv.Itoa(what) + ")"
			empty, q, d := newOf(t), newOf(t, some...), Due{a, what}
			if a < 0 {
				wantNoSet(t, name, empty, a, what, api.ErrArg)
				wantAll(t, name, empty)
				wantNoSet(t, name, q, a, what, api.ErrArg)
				wantAll(t, name, q, some...)
				continue
			}
			setAll(t, empty, d)
			wantAll(t, name, empty, d)
			setAll(t, q, d)
			all := append(slices.Clone(some), d)
			slices.SortStableFunc(all, func(a, b Due) int { return cmp.Compare(a.At, b.At) })
			wantAll(t, name, q, all...)
		}
	}
}

// wantFull holds that a queue takes no more, whatever it is, and stays as it was.
func wantFull(t *testing.T, name string, q *Queue, next Due) {
	t.Helper()
	wantNext(t, name, q, most, next)
	for _, a := range edges() {
		for _, what := range edges() {
			// Where both errors apply, the At is at fault.
			want := error(api.ErrFull)
			if a < 0 {
				want = api.ErrArg
			}
			wantNoSet(t, name, q, a, what, want)
		}
	}
	wantNext(t, name+", behind no Set", q, most, next)
}

// P13.1, P1: there is room for 50, whatever their Ats, and for no more.
func TestFull(t *testing.T) {
	for _, a := range []int{0, 1, 7, 1 << 40, math.MaxInt} {
		name := "50 at " + strconv.Itoa(a)
		q := newOf(t)
		for i := range most {
			setAll(t, q, Due{a, i})
			wantNext(t, name, q, i+1, Due{a, 0})
		}
		wantFull(t, name, q, Due{a, 0})
		wantAll(t, name, q, numbered(most, a, 0)...)
	}
	rising, falling := newOf(t), newOf(t)
	want := []Due{}
	for i := range most {
		setAll(t, rising, Due{i, -i})
		setAll(t, falling, Due{most - 1 - i, i + 1 - most})
		want = append(want, Due{i, -i})
	}
	wantFull(t, "rising", rising, Due{0, 0})
	wantAll(t, "rising", rising, want...)
	wantFull(t, "falling", falling, Due{0, 0})
	wantAll(t, "falling", falling, want...)
}

// P13.1: of a full queue so many are taken: just so many have room again.
func TestFullAgain(t *testing.T) {
	for many := range most + 1 {
		name := strconv.Itoa(many) + " of a full one taken"
		q := newOf(t, numbered(many, 3, 0)...)
		setAll(t, q, numbered(most-many, 5, 100)...)
		wantTaken(t, name, q, 3, numbered(many, 3, 0)...)
		left := numbered(most-many, 5, 100)
		for i := range many {
			setAll(t, q, Due{9, i})
			left = append(left, Due{9, i})
			wantNext(t, name, q, most-many+i+1, left[0])
		}
		wantFull(t, name, q, left[0])
		wantAll(t, name, q, left...)
		setAll(t, q, numbered(most, 1, 0)...)
		wantFull(t, name+", and filled from none", q, Due{1, 0})
	}
	q := newOf(t, numbered(most, 8, 0)...)
	for range 3 {
		wantTaken(t, "none of a full one taken", q, 7)
		wantFull(t, "none of a full one taken", q, Due{8, 0})
	}
}

// P13.1: wrong Sets ahead of each one that may be: they leave it as it was.
func TestBehindWrongSets(t *testing.T) {
	wrong := func(q *Queue, many int) {
		for _, a := range edges() {
			if a < 0 {
				wantNoSet(t, strconv.Itoa(many)+" there", q, a, many, api.ErrArg)
			} else if many == most {
				wantNoSet(t, "50 there", q, a, many, api.ErrFull)
			}
		}
	}
	for many := range most + 1 {
		b := both{q: newOf(t)}
		for i := range many {
			wrong(b.q, i)
			b.wantAlike(t)
			b.set(t, i*37%10, i)
		}
		wrong(b.q, many)
		b.wantAlike(t)
		if taken := b.take(t, 4); len(taken) > many {
			t.Errorf("of %d there Take(4) = %s", many, text(taken))
		}
		wrong(b.q, b.q.Len())
		b.wantAlike(t)
		b.take(t, math.MaxInt)
		wantNone(t, "all taken", b.q)
	}
}

// P13.1: the one that is due first, whichever was set first.
func TestNext(t *testing.T) {
	q := newOf(t)
	for _, s := range []struct{ set, next Due }{
		{Due{9, 1}, Due{9, 1}}, {Due{12, 2}, Due{9, 1}}, {Due{7, 3}, Due{7, 3}}, {Due{8, 4}, Due{7, 3}},
		{Due{7, 5}, Due{7, 3}}, {Due{0, 6}, Due{0, 6}}, {Due{0, -6}, Due{0, 6}}, {Due{math.MaxInt, 0}, Due{0, 6}}} {
		setAll(t, q, s.set)
		many := q.Len()
		wantNext(t, "behind Set of "+text([]Due{s.set}), q, many, s.next)
	}
	wantAll(t, "all", q, Due{0, 6}, Due{0, -6}, Due{7, 3}, Due{7, 5}, Due{8, 4}, Due{9, 1}, Due{12, 2},
		Due{math.MaxInt, 0})
}

// P13.1: of one At the one that was set first, whatever their Whats, earlier ones and later ones, and whatever was set
// and taken between them.
func TestNextOfOneAt(t *testing.T) {
	q := newOf(t, Due{5, 3}, Due{5, 1}, Due{5, 2})
	wantAll(t, "one behind the other", q, Due{5, 3}, Due{5, 1}, Due{5, 2})
	q = newOf(t, Due{5, 3}, Due{8, 0}, Due{2, 9}, Due{5, 1}, Due{4, 4}, Due{6, 7}, Due{5, 2})
	wantNext(t, "others between them", q, 7, Due{2, 9})
	wantTaken(t, "others between them", q, 4, Due{2, 9}, Due{4, 4})
	wantNext(t, "earlier ones taken", q, 5, Due{5, 3})
	setAll(t, q, Due{5, 0}, Due{1, 1})
	wantNext(t, "an earlier one set", q, 7, Due{1, 1})
	wantTaken(t, "an earlier one set", q, 1, Due{1, 1})
	wantNext(t, "the earlier one taken", q, 6, Due{5, 3})
	wantTaken(t, "all of one At", q, 5, Due{5, 3}, Due{5, 1}, Due{5, 2}, Due{5, 0})
	wantNext(t, "all of one At taken", q, 2, Due{6, 7})
	setAll(t, q, Due{5, -1}, Due{6, 1}, Due{5, -2}, Due{8, -1})
	wantNext(t, "more of that At", q, 6, Due{5, -1})
	wantAll(t, "more of that At", q, Due{5, -1}, Due{5, -2}, Due{6, 7}, Due{6, 1}, Due{8, 0}, Due{8, -1})
}

// P13.1: of one At, so many, among so many of two other Ats, in the order in which they were set: also of a full one.
func TestManyOfOneAt(t *testing.T) {
	for many := 1; many <= most; many++ {
		for others := range most - many + 1 {
			q, want := newOf(t), [3][]Due{}
			for i := range max(many, others) {
				if i < many {
					setAll(t, q, Due{5, many - i})
					want[1] = append(want[1], Due{5, many - i})
				}
				if i < others {
					// Behind, ahead, behind, ..
					d := Due{7 - i%2*4, i * 31 % 7}
					setAll(t, q, d)
					want[2-i%2*2] = append(want[2-i%2*2], d)
				}
			}
			wantAll(t, strconv.Itoa(many)+" of one At, "+strconv.Itoa(others)+" others", q, slices.Concat(want[:]...)...)
		}
	}
}

// P13.1: Next takes nothing, however often it is asked.
func TestNextTakesNothing(t *testing.T) {
	q := newOf(t, at(6, 2, 2, 9)...)
	for range 200 {
		wantNext(t, "asked often", q, 4, Due{2, 1})
	}
	wantAll(t, "asked often", q, Due{2, 1}, Due{2, 2}, Due{6, 0}, Due{9, 3})
}

// P13.1, P1: those whose At is no greater than now, and no others, at each time around each At; behind it the others
// are there, in their order.
func TestTake(t *testing.T) {
	set := []Due{{9, 1}, {3, 2}, {5, 3}, {0, 4}, {math.MaxInt, 5}, {5, 6}, {3, -7}, {5, 3}, {0, -4}, {1 << 40, 0}, {9, 0}}
	due := []Due{{0, 4}, {0, -4}, {3, 2}, {3, -7}, {5, 3}, {5, 6}, {5, 3}, {9, 1}, {9, 0}, {1 << 40, 0}, {math.MaxInt, 5}}
	for _, x := range []struct{ now, many int }{
		{math.MinInt, 0}, {math.MinInt + 1, 0}, {-9, 0}, {-1, 0}, {0, 2}, {1, 2}, {2, 2}, {3, 4}, {4, 4}, {5, 7}, {6, 7},
		{8, 7}, {9, 9}, {10, 9}, {1<<40 - 1, 9}, {1 << 40, 10}, {1<<40 + 1, 10}, {math.MaxInt - 1, 10}, {math.MaxInt, 11}} {
		name, q := "Take at "+strconv.Itoa(x.now), newOf(t, set...)
		wantTaken(t, name, q, x.now, due[:x.many]...)
		if x.many < len(due) {
			wantNext(t, name, q, len(due)-x.many, due[x.many])
		}
		// At the same time, and at each that is earlier, there are none any more.
		wantTaken(t, name+", again", q, x.now)
		for _, earlier := range edges() {
			if earlier <= x.now {
				wantTaken(t, name+", and earlier", q, earlier)
			}
		}
		wantAll(t, name+", the others", q, due[x.many:]...)
		for _, now := range edges() {
			wantTaken(t, name+", and all of them", q, now)
		}
	}
}

// P13.1, P1: one alone, of each At that may be, taken at each time.
func TestTakeOfOne(t *testing.T) {
	for _, a := range edges() {
		if a < 0 {
			continue
		}
		for _, now := range append(edges(), a-1, a) {
			name, q := "at "+strconv.Itoa(a)+", Take at "+strconv.Itoa(now), newOf(t, Due{a, now})
			if a <= now {
				wantTaken(t, name, q, now, Due{a, now})
				wantAll(t, name, q)
				continue
			}
			wantTaken(t, name, q, now)
			wantAll(t, name, q, Due{a, now})
		}
	}
}

// P13.1: of a full queue so many are taken, from none to all, at one time, and then one At at a time.
func TestTakeOfFull(t *testing.T) {
	all := []Due{}
	for i := range most {
		all = append(all, Due{2*i + 1, i})
	}
	set := slices.Clone(all)
	rand.New(rand.NewSource(1)).Shuffle(most, func(i, k int) { set[i], set[k] = set[k], set[i] })
	for many := range most + 1 {
		for _, now := range []int{2*many - 1, 2 * many} {
			name, q := "Take of "+strconv.Itoa(many)+" at "+strconv.Itoa(now), newOf(t, set...)
			wantTaken(t, name, q, now, all[:many]...)
			for i := many; i < most; i++ {
				wantNext(t, name+", one At at a time", q, most-i, all[i])
				wantTaken(t, name+", one At at a time", q, 2*i)
				wantTaken(t, name+", one At at a time", q, 2*i+1, all[i])
			}
			wantNone(t, name, q)
		}
	}
}

// P13.1: two that are alike in At and What are two, and so are fifty.
func TestAlikeAreTwo(t *testing.T) {
	q := newOf(t, Due{4, 4}, Due{4, 4})
	wantNext(t, "two alike", q, 2, Due{4, 4})
	wantAll(t, "two alike", q, Due{4, 4}, Due{4, 4})
	q = newOf(t, Due{0, 0}, Due{1, 0}, Due{0, 0})
	wantTaken(t, "two that are zero ones", q, 0, Due{}, Due{})
	setAll(t, q, Due{1, 0}, Due{1, 1}, Due{1, 0})
	wantAll(t, "three alike", q, Due{1, 0}, Due{1, 0}, Due{1, 1}, Due{1, 0})
	fifty := slices.Repeat([]Due{{7, 7}}, most)
	q = newOf(t, fifty...)
	wantFull(t, "fifty alike", q, Due{7, 7})
	wantAll(t, "fifty alike", q, fifty...)
}

// P13.1: one that is set behind a Take, at a time that has gone by: the next Take takes it, also at an earlier time
// than the last one.
func TestSetBehindTake(t *testing.T) {
	q := newOf(t, Due{5, 1}, Due{20, 2})
	wantTaken(t, "ahead", q, 10, Due{5, 1})
	setAll(t, q, Due{3, 3})
	wantNext(t, "gone by", q, 2, Due{3, 3})
	wantTaken(t, "gone by", q, 10, Due{3, 3})
	setAll(t, q, Due{5, 1}, Due{10, 4}, Due{0, 5}, Due{5, 6}, Due{11, 7})
	wantNext(t, "more of them", q, 6, Due{0, 5})
	wantTaken(t, "at an earlier time", q, 5, Due{0, 5}, Due{5, 1}, Due{5, 6})
	wantTaken(t, "at the same time as ahead", q, 10, Due{10, 4})
	wantTaken(t, "at all times", q, math.MaxInt, Due{11, 7}, Due{20, 2})
	setAll(t, q, Due{0, 9}, Due{math.MaxInt, 8})
	wantTaken(t, "behind all times, below 0", q, -1)
	wantTaken(t, "behind all times, at the first tick", q, 0, Due{0, 9})
	wantTaken(t, "behind all times, at the last tick but one", q, math.MaxInt-1)
	wantAll(t, "behind all times", q, Due{math.MaxInt, 8})
}

// spoil changes all that was told, and what there is behind it.
func spoil(l []Due) {
	for i := range l {
		l[i] = Due{-7, 700 + i}
	}
	behind := l[len(l):cap(l)]
	for i := range behind {
		behind[i] = Due{-8, 800 + i}
	}
}

// P13.1, R2: changing what a Take told changes nothing in the queue, nor in what another Take told; and what is done
// with the queue changes nothing in what was told.
func TestTakenIsNew(t *testing.T) {
	for many := range most + 1 {
		name := strconv.Itoa(many) + " taken, and spoilt"
		q := newOf(t, numbered(many, 3, 0)...)
		setAll(t, q, numbered(most-many, 5, 100)...)
		spoil(q.Take(3))
		wantAll(t, name, q, numbered(most-many, 5, 100)...)
		setAll(t, q, numbered(many, 4, 0)...)
		first := q.Take(4)
		setAll(t, q, numbered(most, 6, 200)...)
		if want := numbered(many, 4, 0); !slices.Equal(first, want) {
			t.Errorf("%s: Sets changed what was told, %s, to %s", name, text(want), text(first))
		}
		second := q.Take(6)
		spoil(first)
		if want := numbered(most, 6, 200); !slices.Equal(second, want) {
			t.Errorf("%s: what another Take told, %s, is %s then", name, text(want), text(second))
		}
		setAll(t, q, numbered(many, 1, 0)...)
		spoil(second)
		wantAll(t, name+" again", q, numbered(many, 1, 0)...)
	}
}

// P13.1, R2: Takes that told none, and what is behind them, share nothing with the queue, or with what comes to it.
func TestNoneTakenIsNew(t *testing.T) {
	q := newOf(t)
	none := q.Take(9)
	setAll(t, q, at(4, 6)...)
	none = append(none, q.Take(3)...)
	spoil(append(none, Due{1, 1}, Due{2, 2}))
	_ = append(q.Take(3), Due{1, 1}, Due{2, 2})
	wantAll(t, "none taken, and spoilt", q, at(4, 6)...)
}

// P13.1: two queues side by side, of which each keeps its own.
func TestTwoSideBySide(t *testing.T) {
	one, other := newOf(t, at(5, 3)...), newOf(t)
	wantNone(t, "the other", other)
	setAll(t, other, at(4, 4, 8)...)
	wantNext(t, "one", one, 2, Due{3, 1})
	wantNext(t, "the other", other, 3, Due{4, 0})
	wantTaken(t, "one", one, 4, Due{3, 1})
	wantNext(t, "the other", other, 3, Due{4, 0})
	wantTaken(t, "the other", other, 9, Due{4, 0}, Due{4, 1}, Due{8, 2})
	wantNoSet(t, "the other", other, -1, 0, api.ErrArg)
	wantAll(t, "one", one, Due{5, 0})
	setAll(t, one, numbered(most, 2, 0)...)
	wantFull(t, "one", one, Due{2, 0})
	wantNone(t, "the other", other)
	setAll(t, other, numbered(most, 2, 50)...)
	wantAll(t, "one", one, numbered(most, 2, 0)...)
	wantAll(t, "the other", other, numbered(most, 2, 50)...)
}

// P13.1: several side by side, in which Sets and Takes come at random.
func TestManySideBySide(t *testing.T) {
	rnd := rand.New(rand.NewSource(2))
	queues := make([]both, 5)
	for i := range queues {
		queues[i].q = newOf(t)
	}
	for n := range 20000 {
		b := &queues[rnd.Intn(len(queues))]
		if rnd.Intn(12) > 0 {
			b.set(t, rnd.Intn(20), n)
		} else {
			spoil(b.take(t, rnd.Intn(20)))
		}
		for i := range queues {
			queues[i].wantAlike(t)
		}
	}
	for i := range queues {
		queues[i].take(t, math.MaxInt)
	}
}

// P13.1, P1: all rows of some calls: Sets at a few Ats, and Takes at and around them.
func TestAllRowsOfCalls(t *testing.T) {
	ats, nows := []int{-1, 0, 1, 2}, []int{-1, 0, 1, 2}
	kinds := len(ats) + len(nows)
	rows := 1
	for many := 1; many <= 5; many++ {
		rows *= kinds
		for row := range rows {
			b := both{q: newOf(t)}
			for n := range many {
				if call := row % kinds; call < len(ats) {
					b.set(t, ats[call], n)
				} else {
					b.take(t, nows[call-len(ats)])
				}
				row /= kinds
			}
			b.take(t, 2)
			wantNone(t, "behind all rows", b.q)
		}
	}
}

// P13.1: all orders in which seven of a few Ats may be set.
func TestAllOrders(t *testing.T) {
	for row := range 4 * 4 * 4 * 4 * 4 * 4 * 4 {
		ats, now := [7]int{}, row%5
		for i := range ats {
			ats[i] = row % 4
			row /= 4
		}
		b := both{q: newOf(t)}
		for i, a := range ats {
			b.set(t, a, -i)
		}
		b.take(t, now)
		b.take(t, 3)
	}
}

// run is a long row of calls at random, of which each one that is set has a What of its own.
type run struct {
	both
	rnd   *rand.Rand
	set   map[int]int // the Ats of those that were set
	taken map[int]bool
}

// setOne sets one, at a tick within span, at a great one, or at a wrong one.
func (r *run) setOne(t *testing.T, span, what int) {
	t.Helper()
	at := r.rnd.Intn(span)
	if r.rnd.Intn(15) == 0 {
		at = edges()[r.rnd.Intn(len(edges()))]
	}
	if r.both.set(t, at, what) == nil {
		r.set[what] = at
	}
}

// takeSome takes, and holds that each one was set, is due, and wasn't taken ahead.
func (r *run) takeSome(t *testing.T, now int) {
	t.Helper()
	taken := r.both.take(t, now)
	for i, d := range taken {
		at, is := r.set[d.What]
		if !is || at != d.At || r.taken[d.What] || d.At > now {
			t.Fatalf("Take(%d) = %s: %d of it was set: %v, at %d, and taken ahead: %v",
				now, text(taken), i, is, at, r.taken[d.What])
		}
		r.taken[d.What] = true
	}
}

// wantAllTaken takes the last ones, and holds that there is none that was set, and not taken.
func (r *run) wantAllTaken(t *testing.T) {
	t.Helper()
	if len(r.set) != len(r.taken)+r.q.Len() {
		t.Fatalf("%d set, %d taken, %d there", len(r.set), len(r.taken), r.q.Len())
	}
	r.takeSome(t, math.MaxInt)
	wantNone(t, "all taken", r.q)
	if len(r.set) != len(r.taken) {
		t.Fatalf("%d set, %d taken, none there", len(r.set), len(r.taken))
	}
}

// P13.2, P13.1, P1: over long runs each one is taken once, none ahead of its At; from none there to a full queue.
func TestEachOnce(t *testing.T) {
	for seed, chance := range []int{2, 3, 5, 10, 20, 60, 300} {
		for _, span := range []int{1, 2, 5, 30, 1000, math.MaxInt} {
			r := run{rnd: rand.New(rand.NewSource(int64(seed))), set: map[int]int{}, taken: map[int]bool{}}
			r.q = newOf(t)
			least, greatest := most, 0
			for n := range 6000 {
				switch r.rnd.Intn(chance) {
				case 0:
					r.takeSome(t, r.rnd.Intn(span)-1)
				case 1:
					r.takeSome(t, edges()[r.rnd.Intn(len(edges()))])
				default:
					r.setOne(t, span, n)
				}
				if n%1000 == 999 {
					r.wantAllTaken(t)
				}
				least, greatest = min(least, r.q.Len()), max(greatest, r.q.Len())
			}
			if least != 0 || chance >= 60 && greatest != most {
				t.Errorf("of every %d calls two Takes: there were from %d to %d", chance, least, greatest)
			}
		}
	}
}

// P13.2, P13.1: a clock that goes on: each one is taken at the first Take at which it is due, and none is left behind.
func TestAClock(t *testing.T) {
	rnd := rand.New(rand.NewSource(3))
	for _, step := range []int{1, 3, 40} {
		r := run{rnd: rnd, set: map[int]int{}, taken: map[int]bool{}}
		r.q = newOf(t)
		for now, n := 0, 0; n < 20000; n++ {
			// Some are due at once, or were, by the time that they are set.
			at := max(0, now+rnd.Intn(60)-5)
			if r.both.set(t, at, n) == nil {
				r.set[n] = at
			}
			if rnd.Intn(3) > 0 {
				continue
			}
			now += rnd.Intn(step + 1)
			r.takeSome(t, now)
			if d, is := r.q.Next(); is && d.At <= now {
				t.Fatalf("behind Take(%d) Next() = %v", now, d)
			}
		}
		r.wantAllTaken(t)
	}
}

// P13.2: many Takes at rising times tell together what one at the last of them tells, and leave the same.
func TestManyTakesAreOne(t *testing.T) {
	rnd := rand.New(rand.NewSource(4))
	for _, span := range []int{1, 3, 10, 60, math.MaxInt - 1} {
		for range 400 {
			many, one := newOf(t), newOf(t)
			for n := range 8 {
				for range rnd.Intn(most - many.Len() + 1) {
					d := Due{rnd.Intn(span + 1), n*rnd.Intn(3) - 1}
					setAll(t, many, d)
					setAll(t, one, d)
				}
				nows := make([]int, 1+rnd.Intn(9))
				for i := range nows {
					nows[i] = rnd.Intn(span+1) - rnd.Intn(2)
				}
				slices.Sort(nows)
				told := []Due{}
				for _, now := range nows {
					told = append(told, many.Take(now)...)
				}
				wantTaken(t, "Takes at many times", one, nows[len(nows)-1], told...)
				next, is := one.Next()
				if d, isToo := many.Next(); d != next || isToo != is || many.Len() != one.Len() {
					t.Fatalf("behind many Takes Next() = %v, %v, Len() = %d, behind one %v, %v, %d",
						d, isToo, many.Len(), next, is, one.Len())
				}
			}
			wantAll(t, "behind many Takes", many, one.Take(math.MaxInt)...)
		}
	}
}
