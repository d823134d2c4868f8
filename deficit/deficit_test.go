package deficit

import (
	"math"
	"math/rand"
	"slices"
	"strconv"
	"testing"

	"noggin/api"
)

// most is the chapter's greatest number of classes, greatest its greatest quantum and cost.
const (
	most     = 4
	greatest = 1000
)

// class is one of the chapter's classes.
type class struct{ quantum, credit int }

// byWords are turns by the chapter's words.
type byWords struct {
	classes []class
	stands  int
	visited bool
}

func newByWords(quanta []int) *byWords {
	w := &byWords{}
	for _, q := range quanta {
		w.classes = append(w.classes, class{quantum: q})
	}
	return w
}

func (w *byWords) goOn() {
	w.stands++
	if w.stands == len(w.classes) {
		w.stands = 0
	}
	w.visited = false
}

// pick is for costs that may be.
func (w *byWords) pick(costs []int) int {
	have := 0
	for _, cost := range costs {
		if cost != 0 {
			have++
		}
	}
	if have == 0 {
		for i := range w.classes {
			w.classes[i].credit = 0
		}
		return -1
	}
	for {
		c, cost := &w.classes[w.stands], costs[w.stands]
		if cost == 0 {
			c.credit = 0
			w.goOn()
			continue
		}
		if !w.visited {
			c.credit = c.credit + c.quantum
			w.visited = true
		}
		if c.credit >= cost {
			c.credit = c.credit - cost
			return w.stands
		}
		w.goOn()
	}
}

func (w *byWords) credits() []int {
	l := []int{}
	for _, c := range w.classes {
		l = append(l, c.credit)
	}
	return l
}

func of(l ...int) []int { return l }

// alike is so many of one number.
func alike(many, n int) []int { return slices.Repeat(of(n), many) }

// with is such a list, with another number at one place.
func with(many, n, at, x int) []int {
	l := alike(many, n)
	l[at] = x
	return l
}

func text(l []int) string {
	s := ""
	for i, n := range l {
		if i > 0 {
			s += ","
		}
		s += strconv.Itoa(n)
	}
	return s
}

func newTurns(t *testing.T, quanta ...int) *Turns {
	t.Helper()
	x, err := New(quanta)
	if err != nil || x == nil {
		t.Fatalf("New(%v) = %v, %v", quanta, x, err)
	}
	return x
}

// wantCredits asks twice: asking changes nothing.
func wantCredits(t *testing.T, name string, x *Turns, credits []int) {
	t.Helper()
	for range 2 {
		if l := x.Credits(); !slices.Equal(l, credits) {
			t.Errorf("%s: Credits() = %v, want %v", name, l, credits)
		}
	}
}

// picked is one Pick: what the classes cost, which one is picked, and the credits behind it.
type picked struct {
	costs   []int
	class   int
	credits []int
}

func wantPicked(t *testing.T, name string, x *Turns, l ...picked) {
	t.Helper()
	for i, p := range l {
		costs := slices.Clone(p.costs)
		if class, err := x.Pick(costs); class != p.class || err != nil {
			t.Errorf("%s: row %d: Pick(%v) = %d, %v, want %d", name, i, p.costs, class, err, p.class)
		}
		if !slices.Equal(costs, p.costs) {
			t.Errorf("%s: row %d: Pick(%v) changed them to %v", name, i, p.costs, costs)
		}
		wantCredits(t, name+": behind row "+strconv.Itoa(i), x, p.credits)
	}
}

// wantAlike picks by both, and holds that both pick the same, with the same credits.
func wantAlike(t *testing.T, x *Turns, w *byWords, costs []int) int {
	t.Helper()
	before, stood, visited := w.credits(), w.stands, w.visited
	class, err := x.Pick(costs)
	want, credits := w.pick(costs), w.credits()
	if class != want || err != nil || !slices.Equal(x.Credits(), credits) {
		t.Fatalf("%v, credits %v, at %d, visited %v: Pick(%v) = %d, %v, Credits() = %v; want %d, %v",
			w.classes, before, stood, visited, costs, class, err, x.Credits(), want, credits)
	}
	return class
}

// wantNoPick holds that costs aren't taken, and that the credits stay.
func wantNoPick(t *testing.T, name string, x *Turns, costs []int) {
	t.Helper()
	credits := x.Credits()
	if class, err := x.Pick(costs); class != 0 || err != api.ErrArg {
		t.Errorf("%s: Pick(%v) = %d, %v, want 0, %v", name, costs, class, err, api.ErrArg)
	}
	wantCredits(t, name+": behind wrong costs", x, credits)
}

// edges are numbers at the ends of what a quantum, or a cost, may be, and far from them.
func edges() []int {
	return of(math.MinInt, math.MinInt32, -greatest, -2, -1, 0, 1, 2, greatest-1, greatest, greatest+1, 1024, 65536,
		math.MaxInt32, math.MaxInt)
}

// P12.1: how many quanta there are.
func TestNewOfSoMany(t *testing.T) {
	if x, err := New(nil); x != nil || err != api.ErrArg {
		t.Errorf("New(nil) = %v, %v", x, err)
	}
	for many := range 70 {
		for _, q := range of(1, 7, greatest) {
			x, err := New(alike(many, q))
			if many == 0 || many > most {
				if x != nil || err != api.ErrArg {
					t.Errorf("New of %d quanta of %d = %v, %v", many, q, x, err)
				}
				continue
			}
			if x == nil || err != nil {
				t.Fatalf("New of %d quanta of %d = %v, %v", many, q, x, err)
			}
			name := strconv.Itoa(many) + " quanta of " + strconv.Itoa(q)
			wantCredits(t, name, x, alike(many, 0))
			// The first one is stood at first, wasn't visited, and has its quantum then.
			wantPicked(t, name, x, picked{alike(many, 1), 0, with(many, 0, 0, q-1)})
		}
	}
}

// wantQuanta holds that those are the quanta that turns go by: each class alone is added its own.
func wantQuanta(t *testing.T, quanta []int) {
	t.Helper()
	many := len(quanta)
	for i, q := range quanta {
		x := newTurns(t, quanta...)
		wantCredits(t, "quanta "+text(quanta), x, alike(many, 0))
		wantPicked(t, "quanta "+text(quanta), x, picked{with(many, 0, i, 1), i, with(many, 0, i, q-1)})
	}
}

// P12.1: a quantum that may be, or may not, at each place, beside quanta that may be.
func TestNewOfQuanta(t *testing.T) {
	for many := 1; many <= most; many++ {
		for at := range many {
			for _, q := range edges() {
				for _, beside := range of(1, 500, greatest) {
					quanta := with(many, beside, at, q)
					if q >= 1 && q <= greatest {
						wantQuanta(t, quanta)
					} else if x, err := New(quanta); x != nil || err != api.ErrArg {
						t.Errorf("New(%v) = %v, %v, want nil, %v", quanta, x, err, api.ErrArg)
					}
				}
			}
		}
	}
	wantQuanta(t, of(1, greatest, 2, 999))
	wantQuanta(t, of(4, 3, 2, 1))
}

// P12.1: all quanta at the edges at once, of up to three classes.
func TestNewOfEdges(t *testing.T) {
	for _, a := range edges() {
		for _, b := range edges() {
			for _, c := range edges() {
				quanta := of(a, b, c)
				may := slices.Min(quanta) >= 1 && slices.Max(quanta) <= greatest
				if x, err := New(quanta); (x != nil) != may || may && err != nil || !may && err != api.ErrArg {
					t.Errorf("New(%v) = %v, %v", quanta, x, err)
				}
			}
		}
	}
}

// P12.1: the chapter's example.
func TestExample(t *testing.T) {
	wantPicked(t, "quanta 1, 1", newTurns(t, 1, 1), picked{of(1, 1), 0, of(0, 0)}, picked{of(1, 1), 1, of(0, 0)},
		picked{of(1, 1), 0, of(0, 0)}, picked{of(1, 1), 1, of(0, 0)})
}

// wrongCosts are those that may not be for so many classes.
func wrongCosts(many int) [][]int {
	l := [][]int{nil, {}, {-1}, {greatest + 1}}
	for n := range 70 {
		if n != many {
			l = append(l, alike(n, 0), alike(n, 1), alike(n, greatest))
		}
	}
	for at := range many {
		for _, cost := range edges() {
			if cost < 0 || cost > greatest {
				l = append(l, with(many, 0, at, cost), with(many, 1, at, cost), with(many, greatest, at, cost))
			}
		}
	}
	return append(l, alike(many, -1), alike(many, greatest+1), alike(many, math.MinInt), alike(many, math.MaxInt))
}

// P12.1, P1: costs that may not be, ahead of each of a row of Picks: they leave the credits, where the turns stand,
// and whether that class was visited, as they were.
func TestWrongCosts(t *testing.T) {
	for _, quanta := range [][]int{{1}, {5}, {greatest}, {1, 1}, {5, 3}, {3, 1, 4}, {2, 7, 1, greatest}} {
		many := len(quanta)
		rnd := rand.New(rand.NewSource(int64(many)))
		x, w := newTurns(t, quanta...), newByWords(quanta)
		for range 60 {
			for _, wrong := range wrongCosts(many) {
				wantNoPick(t, "quanta "+text(quanta), x, wrong)
			}
			costs := make([]int, many)
			for i := range costs {
				costs[i] = rnd.Intn(8)
			}
			wantAlike(t, x, w, costs)
		}
	}
}

// P12.1: wrong costs alone, behind which Picks go on as if there hadn't been any: where none was visited, where one
// was and has a credit, and where it has none left.
func TestBehindOneOfWrongCosts(t *testing.T) {
	for _, wrong := range wrongCosts(2) {
		name := "quanta 5, 3, wrong costs " + text(wrong)
		x := newTurns(t, 5, 3)
		wantNoPick(t, name, x, wrong)
		wantPicked(t, name, x, picked{of(4, 1), 0, of(1, 0)})
		wantNoPick(t, name, x, wrong)
		wantPicked(t, name, x, picked{of(1, 1), 0, of(0, 0)})
		wantNoPick(t, name, x, wrong)
		wantPicked(t, name, x, picked{of(1, 1), 1, of(0, 2)})
		wantNoPick(t, name, x, wrong)
		wantPicked(t, name, x, picked{of(3, 4), 0, of(2, 2)})
		wantNoPick(t, name, x, wrong)
		wantPicked(t, name, x, picked{of(3, 4), 1, of(2, 1)}, picked{of(0, 0), -1, of(0, 0)})
		wantNoPick(t, name, x, wrong)
		wantPicked(t, name, x, picked{of(3, 3), 0, of(2, 0)})
	}
}

// P12.1: costs at both ends of what they may be, at each place.
func TestCostsAtTheirEnds(t *testing.T) {
	for many := 1; many <= most; many++ {
		for at := range many {
			name := strconv.Itoa(many) + " classes, at " + strconv.Itoa(at)
			for _, cost := range of(1, 2, greatest-1, greatest) {
				x := newTurns(t, alike(many, greatest)...)
				wantPicked(t, name, x, picked{with(many, 0, at, cost), at, with(many, 0, at, greatest-cost)})
				x = newTurns(t, alike(many, 1)...)
				wantPicked(t, name, x, picked{with(many, 0, at, cost), at, alike(many, 0)})
			}
			x := newTurns(t, alike(many, greatest)...)
			wantPicked(t, name, x, picked{alike(many, 0), -1, alike(many, 0)})
		}
	}
}

// P12.1: all have none: none is picked, and no credit is left; where they stand, and whether it was visited, stays.
func TestAllNone(t *testing.T) {
	none := picked{of(0, 0), -1, of(0, 0)}
	wantPicked(t, "at first, not visited", newTurns(t, 5, 3), none, none, picked{of(1, 1), 0, of(4, 0)})
	wantPicked(t, "at first, visited", newTurns(t, 5, 3), picked{of(1, 1), 0, of(4, 0)}, none,
		picked{of(1, 1), 1, of(0, 2)})
	wantPicked(t, "at the second one, visited", newTurns(t, 5, 3), picked{of(0, 1), 1, of(0, 2)}, none, none, none,
		picked{of(1, 1), 0, of(4, 0)})
	wantPicked(t, "at the second one, and it alone has something", newTurns(t, 5, 3), picked{of(0, 1), 1, of(0, 2)}, none,
		picked{of(0, 1), 1, of(0, 2)})
	wantPicked(t, "a credit that was saved up elsewhere", newTurns(t, 1, 1), picked{of(3, 2), 1, of(2, 0)}, none,
		picked{of(2, 2), 0, of(0, 1)}, none, picked{of(1, 1), 1, of(0, 0)})
	wantPicked(t, "again and again", newTurns(t, 5, 3), picked{of(2, 2), 0, of(3, 0)}, none, picked{of(2, 2), 1, of(0, 1)},
		none, picked{of(2, 2), 0, of(3, 0)}, none, none, picked{of(9, 9), 0, of(1, 6)})
	wantPicked(t, "the only class, visited", newTurns(t, 5), picked{of(2), 0, of(3)}, picked{of(0), -1, of(0)},
		picked{of(2), 0, of(3)}, picked{of(0), -1, of(0)}, picked{of(0), -1, of(0)}, picked{of(5), 0, of(0)})
	wantPicked(t, "the only class, not visited", newTurns(t, 5), picked{of(0), -1, of(0)}, picked{of(2), 0, of(3)})
}

// P12.1: all have none, where each one of several classes is stood at: behind it the next one is picked, for the one
// that they stand at was visited, and has no credit any more.
func TestAllNoneAtEachClass(t *testing.T) {
	for many := 1; many <= most; many++ {
		for at := range many {
			name := strconv.Itoa(many) + " classes, at " + strconv.Itoa(at)
			x := newTurns(t, alike(many, 9)...)
			next := (at + 1) % many
			wantPicked(t, name, x, picked{with(many, 0, at, 1), at, with(many, 0, at, 8)},
				picked{alike(many, 0), -1, alike(many, 0)}, picked{alike(many, 2), next, with(many, 0, next, 7)})
		}
	}
}

// P12.1: one has something, each one in turn: it alone is picked, and no other one has a credit behind it.
func TestOneHasSomething(t *testing.T) {
	for many := 1; many <= most; many++ {
		for at := range many {
			quanta := of(7, 5, 3, 2)[:many]
			x, credit := newTurns(t, quanta...), 0
			for n := range 50 {
				// Four a Pick: where the credit is less, they come round to it, and round again.
				for credit < 4 {
					credit += quanta[at]
				}
				credit -= 4
				wantPicked(t, "Pick "+strconv.Itoa(n)+" of class "+strconv.Itoa(at), x,
					picked{with(many, 0, at, 4), at, with(many, 0, at, credit)})
			}
		}
	}
	wantPicked(t, "one behind the other", newTurns(t, 5, 5, 5), picked{of(0, 0, 1), 2, of(0, 0, 4)},
		picked{of(0, 1, 0), 1, of(0, 4, 0)}, picked{of(1, 0, 0), 0, of(4, 0, 0)}, picked{of(0, 0, 1), 2, of(0, 0, 4)},
		picked{of(1, 0, 0), 0, of(4, 0, 0)}, picked{of(0, 1, 0), 1, of(0, 4, 0)})
}

// P12.1: some have something: who has none has no credit once they stood at it, and keeps it while they don't come
// to it.
func TestSomeHaveNone(t *testing.T) {
	wantPicked(t, "the one that they stand at has none any more", newTurns(t, 5, 5, 5),
		picked{of(1, 1, 1), 0, of(4, 0, 0)}, picked{of(0, 1, 1), 1, of(0, 4, 0)},
		picked{of(1, 0, 1), 2, of(0, 0, 4)}, picked{of(1, 1, 0), 0, of(4, 0, 0)})
	wantPicked(t, "it keeps its credit till they come to it", newTurns(t, 1, 5, 5), picked{of(3, 1, 1), 1, of(1, 4, 0)},
		picked{of(0, 1, 1), 1, of(1, 3, 0)}, picked{of(0, 1, 1), 1, of(1, 2, 0)}, picked{of(0, 1, 1), 1, of(1, 1, 0)},
		picked{of(0, 1, 1), 1, of(1, 0, 0)}, picked{of(0, 1, 1), 2, of(1, 0, 4)}, picked{of(0, 1, 0), 1, of(0, 4, 0)})
	wantPicked(t, "it has something again by the time they come to it", newTurns(t, 1, 2), picked{of(3, 1), 1, of(1, 1)},
		picked{of(0, 1), 1, of(1, 0)}, picked{of(3, 1), 1, of(2, 1)}, picked{of(0, 1), 1, of(2, 0)},
		picked{of(3, 1), 0, of(0, 0)})
	wantPicked(t, "two behind each other have none", newTurns(t, 2, 3, 4, 5), picked{of(9, 9, 9, 5), 3, of(2, 3, 4, 0)},
		picked{of(0, 0, 9, 1), 3, of(0, 0, 8, 4)}, picked{of(9, 9, 0, 5), 3, of(2, 3, 0, 4)},
		picked{of(9, 0, 9, 4), 3, of(2, 3, 0, 0)}, picked{of(9, 0, 1, 4), 2, of(4, 0, 3, 0)})
	wantPicked(t, "several times round it, while the other one saves up", newTurns(t, 1, 1, 1),
		picked{of(2, 2, 4), 0, of(0, 1, 1)}, picked{of(0, 0, 4), 2, of(0, 0, 0)}, picked{of(3, 0, 4), 0, of(0, 0, 2)})
}

// P12.1: a quantum is added once a visit: not again while the same class is picked, and again when they come round to
// it, also to the only class there is.
func TestOnceAVisit(t *testing.T) {
	wantPicked(t, "two classes", newTurns(t, 5, 3), picked{of(2, 2), 0, of(3, 0)}, picked{of(2, 2), 0, of(1, 0)},
		picked{of(2, 2), 1, of(1, 1)}, picked{of(2, 2), 0, of(4, 1)}, picked{of(2, 2), 0, of(2, 1)},
		picked{of(2, 2), 0, of(0, 1)}, picked{of(2, 2), 1, of(0, 2)}, picked{of(2, 2), 1, of(0, 0)},
		picked{of(2, 2), 0, of(3, 0)})
	wantPicked(t, "the only class", newTurns(t, 5), picked{of(2), 0, of(3)}, picked{of(2), 0, of(1)},
		picked{of(2), 0, of(4)}, picked{of(2), 0, of(2)}, picked{of(2), 0, of(0)}, picked{of(2), 0, of(3)})
	x := newTurns(t, greatest, greatest)
	for credit := greatest - 1; credit >= 0; credit-- {
		wantPicked(t, "a long visit", x, picked{of(1, 1), 0, of(credit, 0)})
	}
	wantPicked(t, "behind a long visit", x, picked{of(1, 1), 1, of(0, greatest-1)})
}

// P12.1: a cost above the quantum is saved up for, over many rounds within one Pick.
func TestSavedUp(t *testing.T) {
	for _, quantum := range of(1, 2, 3, 7, 333, 499, 500, 501, 999, greatest) {
		left := (quantum - greatest%quantum) % quantum
		wantPicked(t, "quantum "+strconv.Itoa(quantum), newTurns(t, quantum), picked{of(greatest), 0, of(left)})
		wantPicked(t, "others have none", newTurns(t, 9, quantum, 9), picked{of(0, greatest, 0), 1, of(0, left, 0)})
	}
	wantPicked(t, "all save up", newTurns(t, 1, 1, 1, 1), picked{alike(4, greatest), 0, of(0, 999, 999, 999)},
		picked{alike(4, greatest), 1, of(0, 0, 999, 999)}, picked{alike(4, greatest), 2, of(0, 0, 0, 999)},
		picked{alike(4, greatest), 3, of(0, 0, 0, 0)}, picked{alike(4, greatest), 0, of(0, 999, 999, 999)})
	wantPicked(t, "one is there a round ahead", newTurns(t, 1, 1), picked{of(greatest, 999), 1, of(999, 0)},
		picked{of(greatest, 999), 0, of(0, 0)}, picked{of(greatest, 999), 1, of(998, 0)})
	wantPicked(t, "the last one is there many rounds ahead", newTurns(t, 1, 2, 1, greatest),
		picked{of(greatest, greatest, greatest, greatest), 3, of(1, 2, 1, 0)},
		picked{of(greatest, greatest, greatest, 0), 1, of(500, 0, 499, 0)})
}

// P12.1: what is left behind a cost of more than the quantum is there at the next Pick.
func TestLeftOver(t *testing.T) {
	x := newTurns(t, 999)
	wantPicked(t, "quantum 999", x, picked{of(greatest), 0, of(998)})
	for credit := 997; credit >= 0; credit-- {
		wantPicked(t, "quantum 999", x, picked{of(greatest), 0, of(credit)})
	}
	wantPicked(t, "quantum 999", x, picked{of(greatest), 0, of(998)})
	wantPicked(t, "as much as there may be", newTurns(t, greatest), picked{of(1), 0, of(999)},
		picked{of(greatest), 0, of(999)}, picked{of(greatest), 0, of(999)},
		picked{of(999), 0, of(0)}, picked{of(greatest), 0, of(0)})
}

// P12.1: a credit that is just the cost is enough, one below it isn't.
func TestJustEnough(t *testing.T) {
	for quantum := 1; quantum <= greatest; quantum++ {
		name := "quantum " + strconv.Itoa(quantum)
		wantPicked(t, name, newTurns(t, quantum, 1), picked{of(quantum, 1), 0, of(0, 0)})
		if quantum < greatest {
			wantPicked(t, name, newTurns(t, quantum, 1), picked{of(quantum+1, 1), 1, of(quantum, 0)})
		}
		if quantum > 1 {
			wantPicked(t, name, newTurns(t, quantum, 1), picked{of(quantum-1, 1), 0, of(1, 0)}, picked{of(1, 1), 0, of(0, 0)},
				picked{of(1, 1), 1, of(0, 0)})
			wantPicked(t, name, newTurns(t, quantum, 1), picked{of(quantum-1, 1), 0, of(1, 0)}, picked{of(2, 1), 1, of(1, 0)})
		}
	}
	wantPicked(t, "of two visits", newTurns(t, 5, 5), picked{of(10, 6), 0, of(0, 5)}, picked{of(10, 6), 1, of(0, 4)},
		picked{of(11, 4), 1, of(0, 0)}, picked{of(11, 6), 1, of(10, 4)}, picked{of(15, 5), 0, of(0, 4)})
}

// P12.1: costs change from one Pick to the next, also of the class that they stand at.
func TestCostsChange(t *testing.T) {
	ahead := picked{of(4, 3), 0, of(1, 0)}
	wantPicked(t, "to none", newTurns(t, 5, 3), ahead, picked{of(0, 1), 1, of(0, 2)}, picked{of(4, 3), 0, of(1, 2)})
	wantPicked(t, "to less", newTurns(t, 5, 3), ahead, picked{of(1, 1), 0, of(0, 0)}, picked{of(1, 1), 1, of(0, 2)})
	wantPicked(t, "to more", newTurns(t, 5, 3), ahead, picked{of(5, 1), 1, of(1, 2)}, picked{of(5, 1), 1, of(1, 1)},
		picked{of(6, 2), 0, of(0, 1)})
	wantPicked(t, "to as much", newTurns(t, 5, 3), ahead, picked{of(4, 3), 1, of(1, 0)}, picked{of(4, 3), 0, of(2, 0)},
		picked{of(2, 3), 0, of(0, 0)})
	wantPicked(t, "of both", newTurns(t, 5, 3), ahead, picked{of(2, 1), 1, of(1, 2)}, picked{of(2, 3), 0, of(4, 2)},
		picked{of(5, 2), 1, of(4, 3)}, picked{of(1, 3), 1, of(4, 0)}, picked{of(4, 1), 0, of(5, 0)},
		picked{of(5, 1), 0, of(0, 0)})
	wantPicked(t, "of the only class", newTurns(t, 5), picked{of(4), 0, of(1)}, picked{of(1), 0, of(0)},
		picked{of(9), 0, of(1)}, picked{of(2), 0, of(4)}, picked{of(4), 0, of(0)})
	wantPicked(t, "to less than what it saves up for", newTurns(t, 1, 3), picked{of(9, 3), 1, of(1, 0)},
		picked{of(9, 3), 1, of(2, 0)}, picked{of(2, 3), 0, of(1, 0)}, picked{of(2, 3), 1, of(1, 0)})
}

// P12.1: they stand at the class that was picked, till its credit is less than its cost, or it has none.
func TestTheyStay(t *testing.T) {
	for _, quanta := range [][]int{{10, 10, 10, 10}, {12, 7, 3, 1}, {1, 2, 3, 4}} {
		x := newTurns(t, quanta...)
		for n := range 40 {
			at := n % most
			for credit := quanta[at] - 1; credit >= 0; credit-- {
				wantPicked(t, "quanta "+text(quanta)+", visit "+strconv.Itoa(n), x,
					picked{alike(most, 1), at, with(most, 0, at, credit)})
			}
		}
	}
	wantPicked(t, "it has none", newTurns(t, 9, 9), picked{of(1, 1), 0, of(8, 0)}, picked{of(1, 1), 0, of(7, 0)},
		picked{of(0, 1), 1, of(0, 8)}, picked{of(1, 1), 1, of(0, 7)}, picked{of(1, 0), 0, of(8, 0)})
	wantPicked(t, "its credit is less", newTurns(t, 9, 9), picked{of(5, 1), 0, of(4, 0)}, picked{of(4, 1), 0, of(0, 0)},
		picked{of(1, 9), 1, of(0, 0)}, picked{of(8, 9), 0, of(1, 0)}, picked{of(2, 9), 1, of(1, 0)})
}

// P12.1: behind the last class comes the first one.
func TestBehindTheLastOne(t *testing.T) {
	for many := 1; many <= most; many++ {
		for _, n := range of(1, 2, 500, greatest) {
			x := newTurns(t, alike(many, n)...)
			for i := range 3*many + 1 {
				wantPicked(t, strconv.Itoa(many)+" classes", x, picked{alike(many, n), i % many, alike(many, 0)})
			}
		}
	}
}

// P12.2: what is handed in isn't changed, and changing it behind the call changes nothing.
func TestHandedIn(t *testing.T) {
	all := of(7, 5, 3, 99)
	quanta := all[:2]
	x, err := New(quanta)
	if err != nil || !slices.Equal(all, of(7, 5, 3, 99)) {
		t.Fatalf("New(7, 5) = %v, and changed them to %v", err, all)
	}
	quanta[0], quanta[1] = 1, 0
	want := newByWords(of(7, 5))
	row := of(4, 4, 77, 78)
	costs := row[:2]
	for n := range 200 {
		costs[0], costs[1] = 1+n%9, n%4
		was := slices.Clone(row)
		wantAlike(t, x, want, costs)
		if !slices.Equal(row, was) {
			t.Fatalf("Pick(%v) changed them to %v", was, row)
		}
		costs[0], costs[1] = greatest+1, -n
		wantCredits(t, "behind changed costs", x, want.credits())
		all[0], all[1], all[2] = n, -n, greatest+n
		wantCredits(t, "behind changed quanta", x, want.credits())
	}
	for _, l := range [][]int{{0, 5, 3}, {5, 3, greatest + 1}, {5, 4, 3, 2, 1}} {
		was := slices.Clone(l)
		if _, err := New(l); err != api.ErrArg || !slices.Equal(l, was) {
			t.Errorf("New(%v) = %v, and changed them to %v", was, err, l)
		}
		if _, err := x.Pick(l); err != api.ErrArg || !slices.Equal(l, was) {
			t.Errorf("Pick(%v) = %v, and changed them to %v", was, err, l)
		}
	}
}

// P12.2: what Credits told is new memory: changing it changes nothing, and Picks don't change it.
func TestCreditsAreNew(t *testing.T) {
	for _, quanta := range [][]int{{9}, {5, 3}, {7, 1, 9, greatest}} {
		x, w := newTurns(t, quanta...), newByWords(quanta)
		for n := range 50 {
			first, second := x.Credits(), x.Credits()
			for i := range first {
				first[i] = 5000 + i
			}
			_ = append(first[:0:cap(first)], alike(cap(first), -9)...)
			was := w.credits()
			if !slices.Equal(second, was) {
				t.Fatalf("quanta %v: Credits() = %v behind changing what it told before, want %v", quanta, second, was)
			}
			wantCredits(t, "behind changed credits", x, was)
			wantAlike(t, x, w, alike(len(quanta), 1+n%3))
			if !slices.Equal(second, was) {
				t.Fatalf("quanta %v: a Pick changed credits that were told, %v, to %v", quanta, was, second)
			}
		}
	}
}

// P12.1, P12.2: turns side by side, of the same quanta, in one memory, and of others: each keeps its own.
func TestSideBySide(t *testing.T) {
	rnd := rand.New(rand.NewSource(16))
	same := of(5, 3)
	turns, words := []*Turns{}, []*byWords{}
	for _, quanta := range [][]int{same, same, {3, 5}, {5, 3, 1}, {1}, {1, 1, 1, greatest}} {
		turns, words = append(turns, newTurns(t, quanta...)), append(words, newByWords(quanta))
	}
	for range 5000 {
		i := rnd.Intn(len(turns))
		costs := make([]int, len(words[i].classes))
		for k := range costs {
			costs[k] = rnd.Intn(9)
		}
		wantAlike(t, turns[i], words[i], costs)
		for k := range turns {
			wantCredits(t, "turns "+strconv.Itoa(k)+" behind a Pick of turns "+strconv.Itoa(i), turns[k], words[k].credits())
		}
	}
	one, other := newTurns(t, 5, 3), newTurns(t, 5, 3)
	wantPicked(t, "one", one, picked{of(4, 1), 0, of(1, 0)}, picked{of(4, 1), 1, of(1, 2)})
	wantPicked(t, "the other", other, picked{of(4, 1), 0, of(1, 0)}, picked{of(0, 0), -1, of(0, 0)})
	wantPicked(t, "one again", one, picked{of(4, 1), 1, of(1, 1)})
}

// wantAllRows holds all rows of so many Picks, of which each class costs one of those.
func wantAllRows(t *testing.T, quanta, costs []int, picks int) {
	t.Helper()
	rows := 1
	for range picks * len(quanta) {
		rows *= len(costs)
	}
	for row := range rows {
		x, w := newTurns(t, quanta...), newByWords(quanta)
		for range picks {
			l := make([]int, len(quanta))
			for i := range l {
				l[i] = costs[row%len(costs)]
				row /= len(costs)
			}
			wantAlike(t, x, w, l)
		}
	}
}

// P12.1, P1: all rows of some Picks of few costs.
func TestAllRowsOfPicks(t *testing.T) {
	for _, quantum := range of(1, 2, 3, 5) {
		wantAllRows(t, of(quantum), of(0, 1, 2, 3, 7), 5)
	}
	for _, quanta := range [][]int{{1, 1}, {2, 1}, {1, 3}, {3, 2}, {5, 4}} {
		wantAllRows(t, quanta, of(0, 1, 2, 4), 4)
		wantAllRows(t, quanta, of(0, 3), 6)
	}
	for _, quanta := range [][]int{{1, 1, 1}, {1, 2, 3}, {3, 1, 2}, {4, 4, 1}} {
		wantAllRows(t, quanta, of(0, 1, 3), 3)
		wantAllRows(t, quanta, of(0, 2), 5)
	}
	for _, quanta := range [][]int{{1, 1, 1, 1}, {1, 2, 3, 4}, {4, 1, 3, 2}} {
		wantAllRows(t, quanta, of(0, 2), 4)
	}
}

// anyCosts are at random: some that may be, and some that may not.
func anyCosts(rnd *rand.Rand, many, greatestCost int) []int {
	if rnd.Intn(20) == 0 {
		many = rnd.Intn(7)
	}
	l := make([]int, many)
	for i := range l {
		switch rnd.Intn(12) {
		case 0, 1, 2:
		case 3:
			l[i] = edges()[rnd.Intn(len(edges()))]
		default:
			l[i] = 1 + rnd.Intn(greatestCost)
		}
	}
	return l
}

// P12.1, P1: very many Picks at random, of quanta and costs of all sizes; credits are never below 0.
func TestAtRandom(t *testing.T) {
	rnd := rand.New(rand.NewSource(17))
	for _, size := range of(1, 3, 10, 100, greatest) {
		for range 100 {
			quanta := make([]int, 1+rnd.Intn(most))
			for i := range quanta {
				quanta[i] = 1 + rnd.Intn(size)
			}
			x, w := newTurns(t, quanta...), newByWords(quanta)
			for range 200 {
				costs := anyCosts(rnd, len(quanta), min(2*size, greatest))
				if len(costs) != len(quanta) || slices.Min(costs) < 0 || slices.Max(costs) > greatest {
					wantNoPick(t, "at random", x, costs)
				} else {
					wantAlike(t, x, w, costs)
				}
				if slices.Min(x.Credits()) < 0 {
					t.Fatalf("quanta %v: behind Pick(%v) Credits() = %v", quanta, costs, x.Credits())
				}
			}
		}
	}
}

// cost is what a class costs at a Pick, of those that have something.
type cost func(rnd *rand.Rand, pick, class, quantum, credit int) int

// kindsOfCosts are costs that are even, uneven, and such as go by what turns can pay.
func kindsOfCosts() []cost {
	return []cost{
		func(*rand.Rand, int, int, int, int) int { return 1 },
		func(*rand.Rand, int, int, int, int) int { return greatest },
		func(rnd *rand.Rand, _, _, _, _ int) int { return 1 + rnd.Intn(greatest) },
		func(rnd *rand.Rand, _, _, _, _ int) int { return 1 + rnd.Intn(10) },
		func(_ *rand.Rand, _, _, quantum, _ int) int { return quantum },
		func(_ *rand.Rand, _, _, quantum, _ int) int { return quantum + 1 },
		func(_ *rand.Rand, _, _, quantum, _ int) int { return quantum/2 + 1 },
		func(_ *rand.Rand, _, _, _, credit int) int { return credit },
		func(_ *rand.Rand, _, _, _, credit int) int { return credit + 1 },
		func(_ *rand.Rand, _, class, _, _ int) int { return 1 + class%2*(greatest-1) },
		func(_ *rand.Rand, _, class, _, _ int) int { return greatest - class%2*(greatest-1) },
		func(_ *rand.Rand, pick, class, _, _ int) int { return 1 + (pick+class)%2*(greatest-1) },
		func(_ *rand.Rand, pick, class, _, credit int) int { return credit + (pick/50+class)%2 },
		func(rnd *rand.Rand, _, _, quantum, credit int) int {
			return of(1, quantum, credit, credit+1, greatest)[rnd.Intn(5)]
		},
	}
}

// served tells how far it is apart what two classes were served, since both have something.
type served struct{ apart, lowest, highest, picks int }

// seen takes in one Pick, by which that is further apart.
func (s *served) seen(both bool, further int) {
	if !both {
		*s = served{}
		return
	}
	s.apart += further
	s.lowest, s.highest = min(s.lowest, s.apart), max(s.highest, s.apart)
	s.picks++
}

// fair is a run of turns of which some classes always have something, and the others now and then.
type fair struct {
	quanta []int
	always []bool
	kind   cost
	rnd    *rand.Rand
	pairs  [most][most]served
}

func (f *fair) costs(pick int, credits []int) []int {
	costs := make([]int, len(f.quanta))
	for i, q := range f.quanta {
		if f.always[i] || pick/100%3 > 0 && f.rnd.Intn(8) > 0 {
			costs[i] = max(1, min(greatest, f.kind(f.rnd, pick, i, q, credits[i])))
		}
	}
	return costs
}

// wantFair holds P12.3 between any two times of so many Picks, for each two classes.
func (f *fair) wantFair(t *testing.T, picks int) {
	t.Helper()
	x := newTurns(t, f.quanta...)
	for n := range picks {
		costs := f.costs(n, x.Credits())
		class, err := x.Pick(costs)
		if err != nil || class < 0 || costs[class] == 0 {
			t.Fatalf("quanta %v: Pick(%v) = %d, %v", f.quanta, costs, class, err)
		}
		for i := range costs {
			for k := range i {
				further := 0
				switch class {
				case i:
					further = costs[i] * f.quanta[k]
				case k:
					further = -costs[k] * f.quanta[i]
				}
				p := &f.pairs[i][k]
				p.seen(costs[i] > 0 && costs[k] > 0, further)
				bound := 3*f.quanta[i]*f.quanta[k] + 1000*(f.quanta[i]+f.quanta[k])
				if p.highest-p.lowest > bound {
					t.Fatalf("quanta %v, always %v: by Pick %d classes %d and %d are apart by %d, and may be by %d",
						f.quanta, f.always, n, i, k, p.highest-p.lowest, bound)
				}
				if f.always[i] && f.always[k] && p.picks != n+1 {
					t.Fatalf("classes %d and %d had something for %d Picks of %d", i, k, p.picks, n+1)
				}
			}
		}
	}
}

// allAlways are all choices of two or more of so many classes.
func allAlways(many int) [][]bool {
	l := [][]bool{}
	for choice := range 1 << many {
		always, chosen := make([]bool, many), 0
		for i := range always {
			always[i] = choice>>i&1 == 1
			chosen += choice >> i & 1
		}
		if chosen >= 2 {
			l = append(l, always)
		}
	}
	return l
}

// P12.3: what two classes are served, each times the other one's quantum, is never apart by more than the bound while
// both always have something, between any two times.
func TestFair(t *testing.T) {
	rnd := rand.New(rand.NewSource(18))
	for _, quanta := range [][]int{
		{1, 1}, {1, greatest}, {greatest, 1}, {greatest, greatest}, {999, 2}, {30, 70}, {1, 1, 1}, {500, 1, 20},
		{3, greatest, 10}, {1, 1, 1, 1}, {1, 10, 100, greatest}, {greatest, 999, 2, 1}, {7, 7, 300, 7}} {
		for _, always := range allAlways(len(quanta)) {
			for _, kind := range kindsOfCosts() {
				f := fair{quanta: quanta, always: always, kind: kind, rnd: rnd}
				f.wantFair(t, 1500)
			}
		}
	}
}

// P12.3: very long runs, of quanta at random.
func TestFairForLong(t *testing.T) {
	rnd := rand.New(rand.NewSource(19))
	for _, kind := range kindsOfCosts() {
		for many := 2; many <= most; many++ {
			quanta := make([]int, many)
			for i := range quanta {
				quanta[i] = 1 + rnd.Intn(greatest)
			}
			choices := allAlways(many)
			f := fair{quanta: quanta, always: choices[rnd.Intn(len(choices))], kind: kind, rnd: rnd}
			f.wantFair(t, 30000)
		}
	}
}

// P12.3: one class spends all that it has while the other one saves up, and then the other way round: that comes near
// the bound, and not beyond it.
func TestFairAtWorst(t *testing.T) {
	for _, quanta := range [][]int{{1, 1}, {1, 2}, {2, 1}, {5, 3}, {10, 10}} {
		x, s := newTurns(t, quanta...), served{}
		for n := range 4000 {
			spends, credits, costs := n/2000, x.Credits(), of(0, 0)
			saves := 1 - spends
			costs[spends] = max(1, credits[spends])
			costs[saves] = min(greatest, credits[saves]+quanta[saves]+1)
			class, err := x.Pick(costs)
			if err != nil {
				t.Fatalf("quanta %v: Pick(%v) = %d, %v", quanta, costs, class, err)
			}
			further := costs[class] * quanta[1-class]
			if class == 1 {
				further = -further
			}
			s.seen(true, further)
		}
		bound := 3*quanta[0]*quanta[1] + 1000*(quanta[0]+quanta[1])
		if apart := s.highest - s.lowest; apart > bound || apart < bound*9/10 {
			t.Errorf("quanta %v: apart by %d, and may be by %d", quanta, apart, bound)
		}
	}
}
