package ledger

import (
	"math"
	"math/rand"
	"slices"
	"strconv"
	"testing"

	"noggin/api"
)

// most is the chapter's greatest number of classes, last its last reason.
const (
	most = 4
	last = 7
)

// deed is what a ledger is told: that one came, or that one ended.
type deed struct {
	ends          bool
	class, reason int
}

func come(class int) deed        { return deed{class: class} }
func end(class, reason int) deed { return deed{true, class, reason} }

func (d deed) text() string {
	if !d.ends {
		return "Come(" + strconv.Itoa(d.class) + ")"
	}
	return "End(" + strconv.Itoa(d.class) + ", " + strconv.Itoa(d.reason) + ")"
}

// do tells a ledger.
func (d deed) do(l *Ledger) error {
	if d.ends {
		return l.End(d.class, d.reason)
	}
	return l.Come(d.class)
}

// byWords is a ledger by the chapter's words: it keeps all that it was told, and counts that whenever it is asked.
type byWords struct {
	classes int
	told    []deed
}

// may tells whether there is such a class, and such a reason.
func (w *byWords) may(d deed) bool {
	classes, reasons := []int{}, []int{}
	for n := range w.classes {
		classes = append(classes, n)
	}
	classes = append(classes, w.classes) // the odd one
	if d.ends {
		reasons = append(reasons, api.Malformed, api.Sampled, api.QueueFull, api.Delayed, api.Late, api.NoRoom,
			api.Taken)
		return slices.Contains(classes, d.class) && slices.Contains(reasons, d.reason)
	}
	return slices.Contains(classes, d.class)
}

func (w *byWords) tell(d deed) error {
	if !w.may(d) {
		return api.ErrArg
	}
	w.told = append(w.told, d)
	return nil
}

// counted is how often each was told.
func (w *byWords) counted() map[deed]uint64 {
	m := map[deed]uint64{}
	for _, d := range w.told {
		m[d]++
	}
	return m
}

// open is how many of a class came and haven't ended: each that ended stands against one that came.
func (w *byWords) open(class int) (uint64, bool) {
	came, ended := []deed{}, []deed{}
	for _, d := range w.told {
		switch {
		case d.class != class:
		case d.ends:
			ended = append(ended, d)
		default:
			came = append(came, d)
		}
	}
	if !w.may(come(class)) || len(ended) > len(came) {
		return 0, false
	}
	return uint64(len(came[len(ended):])), true
}

// numbers are some around all classes and all reasons, and the least and the greatest number there are.
func numbers() []int {
	l := []int{math.MinInt, math.MinInt + 1, math.MinInt32, math.MaxInt32, math.MaxInt - 1, math.MaxInt}
	for n := -3; n <= last+3; n++ {
		l = append(l, n)
	}
	return l
}

func newLedger(t *testing.T, classes int) *Ledger {
	t.Helper()
	l, err := New(classes)
	if err != nil || l == nil {
		t.Fatalf("New(%d) = %v, %v", classes, l, err)
	}
	return l
}

// wantDone tells a ledger deeds that may be.
func wantDone(t *testing.T, l *Ledger, deeds ...deed) {
	t.Helper()
	for _, d := range deeds {
		if err := d.do(l); err != nil {
			t.Fatalf("%s = %v", d.text(), err)
		}
	}
}

// wantOpen asks twice, for asking turns nothing.
func wantOpen(t *testing.T, what string, l *Ledger, class int, want uint64, wantIs bool) {
	t.Helper()
	for range 2 {
		if n, is := l.Open(class); n != want || is != wantIs {
			t.Errorf("%s: Open(%d) = %d, %t, want %d, %t", what, class, n, is, want, wantIs)
		}
	}
}

// wantAll asks a ledger of all classes and reasons, and of such as there aren't, each twice, for asking turns nothing.
func wantAll(t *testing.T, what string, l *Ledger, w *byWords) {
	t.Helper()
	counted := w.counted()
	for range 2 {
		for _, class := range numbers() {
			if n := l.Received(class); n != counted[come(class)] {
				t.Fatalf("%s: Received(%d) = %d, want %d", what, class, n, counted[come(class)])
			}
			open, wantIs := w.open(class)
			if n, is := l.Open(class); n != open || is != wantIs {
				t.Fatalf("%s: Open(%d) = %d, %t, want %d, %t", what, class, n, is, open, wantIs)
			}
			for _, reason := range numbers() {
				if n := l.Ended(class, reason); n != counted[end(class, reason)] {
					t.Fatalf("%s: Ended(%d, %d) = %d, want %d", what, class, reason, n, counted[end(class, reason)])
				}
			}
		}
	}
}

// P17.1: of 1 to 4 classes there is a ledger, of which nothing has come, and nothing ended.
func TestNew(t *testing.T) {
	for classes := 1; classes <= most; classes++ {
		wantAll(t, "new", newLedger(t, classes), &byWords{classes: classes})
	}
}

// P17.1, P1: of any other number there is none, and the error is ErrArg itself.
func TestNewOfNoSuchNumber(t *testing.T) {
	for _, classes := range []int{math.MinInt, math.MinInt + 1, math.MinInt32, -4, -1, 0, 5, 6, 7, 8, 255, 256, 257,
		math.MaxInt32, 1 << 32, 1<<32 + 1, math.MaxInt - 1, math.MaxInt} {
		l, err := New(classes)
		if l != nil || err != error(api.ErrArg) {
			t.Errorf("New(%d) = %v, %v, want none, %v", classes, l, err, api.ErrArg)
		}
	}
}

// P17.1: the limits of the chapter are api's.
func TestLimits(t *testing.T) {
	reasons := []int{api.Malformed, api.Sampled, api.QueueFull, api.Delayed, api.Late, api.NoRoom, api.Taken}
	if api.MaxClasses != most || !slices.Equal(reasons, []int{1, 2, 3, 4, 5, 6, last}) {
		t.Error(api.MaxClasses, reasons)
	}
}

// P17.1, P17.2: the chapter's example, of each class.
func TestExample(t *testing.T) {
	for classes := 1; classes <= most; classes++ {
		for class := range classes + 1 {
			l := newLedger(t, classes)
			wantDone(t, l, come(class))
			wantOpen(t, "one came", l, class, 1, true)
		}
	}
}

// P17.1: by hand, of two classes, so that 2 is the odd one; each row is what one ledger goes on with.
func TestByHand(t *testing.T) {
	l := newLedger(t, 2)
	rows := []struct {
		deed
		received [3]uint64
		ended    [3][last]uint64 // by reasons, from 1 on
	}{
		{come(0), [3]uint64{1, 0, 0}, [3][last]uint64{}},
		{come(2), [3]uint64{1, 0, 1}, [3][last]uint64{}},
		{come(2), [3]uint64{1, 0, 2}, [3][last]uint64{}},
		{end(2, 1), [3]uint64{1, 0, 2}, [3][last]uint64{2: {1}}},
		{end(2, 1), [3]uint64{1, 0, 2}, [3][last]uint64{2: {2}}},
		{end(0, 7), [3]uint64{1, 0, 2}, [3][last]uint64{0: {6: 1}, 2: {2}}},
		{end(1, 4), [3]uint64{1, 0, 2}, [3][last]uint64{0: {6: 1}, 1: {3: 1}, 2: {2}}},
		{come(1), [3]uint64{1, 1, 2}, [3][last]uint64{0: {6: 1}, 1: {3: 1}, 2: {2}}},
		{end(0, 6), [3]uint64{1, 1, 2}, [3][last]uint64{0: {5: 1, 6: 1}, 1: {3: 1}, 2: {2}}},
		{end(2, 7), [3]uint64{1, 1, 2}, [3][last]uint64{0: {5: 1, 6: 1}, 1: {3: 1}, 2: {2, 6: 1}}},
		{come(0), [3]uint64{2, 1, 2}, [3][last]uint64{0: {5: 1, 6: 1}, 1: {3: 1}, 2: {2, 6: 1}}},
	}
	for _, row := range rows {
		wantDone(t, l, row.deed)
		for class, want := range row.received {
			if n := l.Received(class); n != want {
				t.Errorf("behind %s: Received(%d) = %d, want %d", row.text(), class, n, want)
			}
			for i, want := range row.ended[class] {
				if n := l.Ended(class, i+1); n != want {
					t.Errorf("behind %s: Ended(%d, %d) = %d, want %d", row.text(), class, i+1, n, want)
				}
			}
		}
	}
}

// busy is a ledger of which each count is another one, with its words.
func busy(t *testing.T, classes int) (*Ledger, *byWords) {
	t.Helper()
	l, w := newLedger(t, classes), &byWords{classes: classes}
	many := 1
	for class := range classes + 1 {
		for reason := 1; reason <= last; reason++ {
			for range many {
				w.told = append(w.told, end(class, reason))
			}
			many++
		}
		// Of the even ones some are open; of the odd ones more have ended than came.
		for range many * (8 - class%2*7) {
			w.told = append(w.told, come(class))
		}
	}
	wantDone(t, l, w.told...)
	return l, w
}

// P17.1: Come counts one more of that class, and of no other one; of no such class it is ErrArg itself, and nothing is
// counted anywhere. The ledger has something of all ahead of it.
func TestCome(t *testing.T) {
	for classes := 1; classes <= most; classes++ {
		l, w := busy(t, classes)
		wantAll(t, "busy", l, w)
		for _, class := range numbers() {
			wantTold(t, l, w, come(class), class >= 0 && class <= classes)
		}
	}
}

// P17.1: End counts one more of that class and that reason, and of no other one; where there is no such class, or no
// such reason, or neither, it is ErrArg itself, and nothing is counted anywhere.
func TestEnd(t *testing.T) {
	for classes := 1; classes <= most; classes++ {
		l, w := busy(t, classes)
		for _, class := range numbers() {
			for _, reason := range numbers() {
				is := class >= 0 && class <= classes && reason >= 1 && reason <= last
				wantTold(t, l, w, end(class, reason), is)
			}
		}
	}
}

// wantTold tells a ledger a deed, which may be or not, and asks it of all.
func wantTold(t *testing.T, l *Ledger, w *byWords, d deed, may bool) {
	t.Helper()
	want := error(nil)
	if !may {
		want = api.ErrArg
	}
	if w.tell(d) != want {
		t.Fatalf("%s: the words are amiss", d.text())
	}
	if err := d.do(l); err != want {
		t.Fatalf("of %d classes: %s = %v, want %v", w.classes, d.text(), err, want)
	}
	wantAll(t, d.text(), l, w)
}

// P17.1: wrong ones alone lead nowhere: a ledger that was told nothing else is as it was at first.
func TestWrongOnesAlone(t *testing.T) {
	for classes := 1; classes <= most; classes++ {
		l, w := newLedger(t, classes), &byWords{classes: classes}
		for _, class := range numbers() {
			for _, reason := range numbers() {
				for _, d := range []deed{come(class), end(class, reason)} {
					if w.may(d) {
						continue
					}
					if err := d.do(l); err != error(api.ErrArg) {
						t.Errorf("of %d classes: %s = %v, want %v", classes, d.text(), err, api.ErrArg)
					}
				}
			}
		}
		wantAll(t, "wrong ones alone", l, w)
	}
}

// P17.2: by hand, of each class, the odd one with them: how many are open, step by step.
func TestOpen(t *testing.T) {
	for classes := 1; classes <= most; classes++ {
		for class := range classes + 1 {
			wantOpenByHand(t, newLedger(t, classes), class)
		}
	}
}

func wantOpenByHand(t *testing.T, l *Ledger, class int) {
	t.Helper()
	wantOpen(t, "of which none came", l, class, 0, true)
	wantDone(t, l, come(class), come(class), come(class), come(class))
	wantOpen(t, "of which four came", l, class, 4, true)
	wantDone(t, l, end(class, api.Late))
	wantOpen(t, "of which one ended", l, class, 3, true)
	wantDone(t, l, end(class, api.Late))
	wantOpen(t, "of which two ended by one reason", l, class, 2, true)
	wantDone(t, l, end(class, api.Malformed))
	wantOpen(t, "of which three ended by two", l, class, 1, true)
	wantDone(t, l, end(class, api.Taken))
	wantOpen(t, "of which all ended", l, class, 0, true)
	wantDone(t, l, end(class, api.Taken))
	wantOpen(t, "of which one more ended than came", l, class, 0, false)
	wantDone(t, l, end(class, api.Sampled))
	wantOpen(t, "of which two more ended than came", l, class, 0, false)
	wantDone(t, l, come(class))
	wantOpen(t, "of which one more ended than came, again", l, class, 0, false)
	wantDone(t, l, come(class))
	wantOpen(t, "of which all ended, again", l, class, 0, true)
	wantDone(t, l, come(class))
	wantOpen(t, "of which one came again", l, class, 1, true)
}

// P17.2: each reason alone takes one off; by all of them at once, all are taken off.
func TestOpenByEachReason(t *testing.T) {
	all := newLedger(t, 1)
	for reason := 1; reason <= last; reason++ {
		l := newLedger(t, 1)
		wantDone(t, l, come(1), come(1), end(1, reason))
		wantOpen(t, "one ended by "+strconv.Itoa(reason), l, 1, 1, true)
		wantDone(t, l, end(1, reason), end(1, reason))
		wantOpen(t, "three ended by "+strconv.Itoa(reason), l, 1, 0, false)
		wantDone(t, all, end(0, reason))
	}
	for n := range uint64(last) {
		wantOpen(t, "seven ended", all, 0, 0, false)
		if all.Received(0) != n {
			t.Error(all.Received(0))
		}
		wantDone(t, all, come(0))
	}
	wantOpen(t, "seven came", all, 0, 0, true)
}

// P17.2: of no such class none are open, and it is told that there is nothing, whatever has come of those there are.
func TestOpenOfNoSuchClass(t *testing.T) {
	for classes := 1; classes <= most; classes++ {
		l, _ := busy(t, classes)
		for _, class := range []int{math.MinInt, -5, -1, classes + 1, classes + 2, 256, 1 << 32, math.MaxInt} {
			wantOpen(t, "of no such class", l, class, 0, false)
		}
	}
}

// P17.1: a count goes up to 2^64 - 1, where it stays: one more is no error, and no other count goes on by it.
func TestTop(t *testing.T) {
	for _, class := range []int{0, 1, 2} {
		l := newLedger(t, 2)
		l.classes[class].received = math.MaxUint64 - 2
		for _, want := range []uint64{math.MaxUint64 - 1, math.MaxUint64, math.MaxUint64, math.MaxUint64} {
			wantDone(t, l, come(class))
			if n := l.Received(class); n != want {
				t.Errorf("Received(%d) = %d, want %d", class, n, want)
			}
			wantOpen(t, "near the top", l, class, want, true)
		}
		l.classes[class].received = 0
		wantAll(t, "but for what came", l, &byWords{classes: 2})
		for reason := 1; reason <= last; reason++ {
			l.classes[class].ended[reason] = math.MaxUint64 - 2
			for _, want := range []uint64{math.MaxUint64 - 1, math.MaxUint64, math.MaxUint64, math.MaxUint64} {
				wantDone(t, l, end(class, reason))
				if n := l.Ended(class, reason); n != want {
					t.Errorf("Ended(%d, %d) = %d, want %d", class, reason, n, want)
				}
			}
			l.classes[class].ended[reason] = 0
			wantAll(t, "but for what ended", l, &byWords{classes: 2})
		}
	}
}

// P17.2: of counts near the top: what ended is more than what came also where the sum of all that ended is more than
// 2^64 - 1.
func TestOpenNearTheTop(t *testing.T) {
	const top = math.MaxUint64
	const half = 1 << 63
	rows := []struct {
		received uint64
		ended    [last]uint64 // by reasons, from 1 on
		want     uint64
		is       bool
	}{
		{top, [last]uint64{}, top, true},
		{top, [last]uint64{1}, top - 1, true},
		{top, [last]uint64{6: top - 1}, 1, true},
		{top, [last]uint64{3: top}, 0, true},
		{top, [last]uint64{half, half - 1}, 0, true},
		{top, [last]uint64{half - 1, 6: half}, 0, true},
		{top, [last]uint64{half, half}, 0, false},
		{top, [last]uint64{top, 1}, 0, false},
		{top, [last]uint64{1, top}, 0, false},
		{top, [last]uint64{top, 6: top}, 0, false},
		{top - 1, [last]uint64{top}, 0, false},
		{top - 1, [last]uint64{top, top}, 0, false},
		{top - 1, [last]uint64{top - 1}, 0, true},
		{0, [last]uint64{half, half}, 0, false},
		{5, [last]uint64{half, 2, half, 3}, 0, false},
		{5, [last]uint64{2, 0, 0, 0, 0, top, 4}, 0, false},
		{0, [last]uint64{top}, 0, false},
		{half, [last]uint64{half - 7, 1, 1, 1, 1, 1, 1}, 1, true},
		{half, [last]uint64{1, 1, 1, half - 7, 1, 1, 1}, 1, true},
		{half, [last]uint64{1, 1, 1, 1, 1, 1, half - 5}, 0, false},
	}
	for _, row := range rows {
		l := newLedger(t, 1)
		l.classes[1].received = row.received
		for i, n := range row.ended {
			l.classes[1].ended[i+1] = n
		}
		wantOpen(t, "near the top", l, 1, row.want, row.is)
		wantOpen(t, "the other one", l, 0, 0, true)
	}
}

// P17.2: at the top one more that comes opens none, for it isn't counted; one that ends is.
func TestOpenAtTheTop(t *testing.T) {
	l := newLedger(t, 1)
	l.classes[0].received = math.MaxUint64
	wantDone(t, l, come(0), end(0, 2), come(0))
	wantOpen(t, "one ended", l, 0, math.MaxUint64-1, true)
	l.classes[0].ended[2] = math.MaxUint64
	wantDone(t, l, end(0, 2))
	wantOpen(t, "as many as can be ended", l, 0, 0, true)
	wantDone(t, l, end(0, 3))
	wantOpen(t, "one more ended, by another reason", l, 0, 0, false)
	wantDone(t, l, come(0))
	wantOpen(t, "one more came", l, 0, 0, false)
}

// P17.1, P17.2: asking turns nothing: one that is asked any number of times in between is as one that isn't.
func TestAskingTurnsNothing(t *testing.T) {
	rnd := rand.New(rand.NewSource(21))
	for range 50 {
		classes := 1 + rnd.Intn(most)
		asked, told, w := newLedger(t, classes), newLedger(t, classes), &byWords{classes: classes}
		for range 40 {
			d := anyDeed(rnd, classes)
			if a, b := d.do(asked), d.do(told); a != b {
				t.Fatalf("%s = %v, of one that isn't asked %v", d.text(), a, b)
			}
			w.tell(d)
			for range rnd.Intn(5) {
				class, reason := anyNumber(rnd, classes), anyNumber(rnd, last)
				asked.Received(class)
				asked.Ended(class, reason)
				asked.Open(class)
			}
		}
		wantAll(t, "asked", asked, w)
		wantAll(t, "not asked", told, w)
	}
}

// anyDeed is one that may be mostly.
func anyDeed(rnd *rand.Rand, classes int) deed {
	class := anyNumber(rnd, classes)
	if rnd.Intn(2) == 0 {
		return come(class)
	}
	return end(class, anyNumber(rnd, last))
}

// anyNumber is one from 0 to the last one mostly.
func anyNumber(rnd *rand.Rand, last int) int {
	if rnd.Intn(16) == 0 {
		return numbers()[rnd.Intn(len(numbers()))]
	}
	return rnd.Intn(last + 1)
}

// P17.1, P17.2: ledgers told apart, in turn, don't touch each other: each is as if it were alone. Some are of as many
// classes, and some are made while the others are under way.
func TestApart(t *testing.T) {
	rnd := rand.New(rand.NewSource(22))
	for range 5 {
		ledgers, words := []*Ledger{}, []*byWords{}
		for n := range 120 {
			if n%30 == 0 {
				classes := 1 + rnd.Intn(2)*3
				ledgers, words = append(ledgers, newLedger(t, classes)), append(words, &byWords{classes: classes})
			}
			at := rnd.Intn(len(ledgers))
			d := anyDeed(rnd, words[at].classes)
			if err, want := d.do(ledgers[at]), words[at].tell(d); err != want {
				t.Fatalf("ledger %d: %s = %v, want %v", at, d.text(), err, want)
			}
			for i, l := range ledgers {
				wantAll(t, "behind "+d.text(), l, words[i])
			}
		}
	}
}

// P17.1, P17.2: two of as many classes, by hand.
func TestTwoByHand(t *testing.T) {
	a, b := newLedger(t, 4), newLedger(t, 4)
	wantDone(t, a, come(4), come(4), end(4, 5))
	wantOpen(t, "a", a, 4, 1, true)
	wantOpen(t, "b, told nothing", b, 4, 0, true)
	wantDone(t, b, end(4, 5), end(4, 5))
	wantOpen(t, "a", a, 4, 1, true)
	wantOpen(t, "b, of which none came", b, 4, 0, false)
	if a.Received(4) != 2 || b.Received(4) != 0 || a.Ended(4, 5) != 1 || b.Ended(4, 5) != 2 {
		t.Error(a.Received(4), b.Received(4), a.Ended(4, 5), b.Ended(4, 5))
	}
}

// P17.1, P17.2: all rows of six deeds of one class and the odd one, with two reasons.
func TestAllShortRows(t *testing.T) {
	kinds := []deed{come(0), end(0, 1), end(0, 7), come(1), end(1, 1), end(1, 7)}
	told := make([]deed, 6)
	for n := range 46656 {
		for i := range told {
			told[i] = kinds[n%6]
			n /= 6
		}
		l := newLedger(t, 1)
		wantDone(t, l, told...)
		w := byWords{classes: 1, told: told}
		for class := range 2 {
			open, wantIs := w.open(class)
			if n, is := l.Open(class); n != open || is != wantIs {
				t.Fatalf("behind %v: Open(%d) = %d, %t, want %d, %t", told, class, n, is, open, wantIs)
			}
		}
		counted := w.counted()
		for _, d := range kinds {
			many := l.Received(d.class)
			if d.ends {
				many = l.Ended(d.class, d.reason)
			}
			if many != counted[d] {
				t.Fatalf("behind %v: %d of %s, want %d", told, many, d.text(), counted[d])
			}
		}
	}
}

// P17.1, P17.2: deeds at random, wrong ones among them, each told against the chapter's words worked out apart.
func TestAtRandom(t *testing.T) {
	rnd := rand.New(rand.NewSource(23))
	for n := range 100 {
		classes := 1 + n%most
		l, w := newLedger(t, classes), &byWords{classes: classes}
		for range 60 {
			d := anyDeed(rnd, classes)
			if err, want := d.do(l), w.tell(d); err != want {
				t.Fatalf("of %d classes: %s = %v, want %v", classes, d.text(), err, want)
			}
			wantAll(t, d.text(), l, w)
		}
	}
}

// P17.3: of ledgers of each number of classes, over events that come and end at random, ended only while some are open:
// what came is what ended, by any reason, and what is open, of each class at each step.
func TestWhatCameIsWhatEndedAndWhatIsOpen(t *testing.T) {
	rnd := rand.New(rand.NewSource(24))
	for n := range 40 {
		classes := 1 + n%most
		l, came, waiting := newLedger(t, classes), make([]uint64, classes+1), make([]uint64, classes+1)
		for range 3000 {
			class := rnd.Intn(classes + 1)
			// Loads come and go: some runs fill, others empty.
			if waiting[class] == 0 || rnd.Intn(100) < 20+n*2 {
				wantDone(t, l, come(class))
				came[class]++
				waiting[class]++
			} else {
				wantDone(t, l, end(class, 1+rnd.Intn(last)))
				waiting[class]--
			}
			wantBalance(t, l, came, waiting)
		}
	}
}

// wantBalance asks all classes: how many came, how many wait, and that the one is the other and what ended.
func wantBalance(t *testing.T, l *Ledger, came, waiting []uint64) {
	t.Helper()
	for class, many := range came {
		open, is := l.Open(class)
		if !is || open != waiting[class] || l.Received(class) != many {
			t.Fatalf("class %d: %d open, %t, of %d, want %d of %d", class, open, is, l.Received(class), waiting[class],
				many)
		}
		for reason := 1; reason <= last; reason++ {
			open += l.Ended(class, reason)
		}
		if open != many {
			t.Fatalf("class %d: %d came, but %d ended or are open", class, many, open)
		}
	}
}

// P17.3: where ends come at random too: wherever Open tells a number, what came is what ended and what is open, and it
// tells one wherever no more have ended than came.
func TestBalanceWhereverItIs(t *testing.T) {
	rnd := rand.New(rand.NewSource(25))
	more := 0
	for n := range 40 {
		classes := 1 + n%most
		l := newLedger(t, classes)
		for range 500 {
			class := rnd.Intn(classes + 1)
			if rnd.Intn(2) == 0 {
				wantDone(t, l, come(class))
			} else {
				wantDone(t, l, end(class, 1+rnd.Intn(last)))
			}
			ended := uint64(0)
			for reason := range last {
				ended += l.Ended(class, reason+1)
			}
			open, is := l.Open(class)
			if is && open+ended != l.Received(class) || is != (ended <= l.Received(class)) || !is && open != 0 {
				t.Fatalf("%d came, %d ended, Open(%d) = %d, %t", l.Received(class), ended, class, open, is)
			}
			if !is {
				more++
			}
		}
	}
	if more < 1000 {
		t.Errorf("more had ended than came %d times: too seldom", more)
	}
}
